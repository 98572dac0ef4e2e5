import PyProof.Rows.All
import Wide.All
import OpenK.AllK
import Wide.FinOn
import HandS.ForMost
import HandS.Exc
import HandS.Codes
import HandS.Wide
import HandS.WideBits
import HandS.Gcd
import HandS.IsInst
import HandS.Defaults
import HandS.ForExc
import HandS.ExcInit
import HandS.ExcField
import HandS.ExcIs
import KE.KExcIs
import HandS.Lambda
import HandS.CallLocal
import HandS.EndTab
import PySem.Challenge.RW_wheelsky_k02_floor_part_offset
set_option Elab.async false
set_option linter.all false
set_option maxRecDepth 100000
set_option maxHeartbeats 4000000
namespace My
open PySem PySem.Spec PyProof.Rows L2
def topS (i : Nat) : Stmt := PySem.Challenge.pw_wheelsky_k02_floor_part_offset.main.body.getD i (.Pass ⟨0, 0, 0, 0⟩)
/-! ### a def of the top, and what it is known to keep -/
structure Dfn (K : PySem.W.Frag) (mg : Str → Option Value) (x : Str) (st : Stmt) (ps : List Str) : Prop where
  ex : ∃ f fd, Fun K x x st f fd ∧ mg x = some (.ref f) ∧ Binds K fd ps []
structure Kn (P : Program) (w : World) (K : PySem.W.Frag) (mg : Str → Option Value) (base : Heap) (k : Nat) (x : Str) (ps : List Str) (sp : Sp) : Prop where
  ex : ∃ f fd, mg x = some (.ref f) ∧ PySem.W.keepIn K (.ref f) = true ∧ Binds K fd ps [] ∧ FnOk P w K mg base CX0 k f fd ps sp
theorem Kn.mk' {P : Program} {w : World} {K : PySem.W.Frag} {mg : Str → Option Value} {base : Heap} {x : Str} {st : Stmt} {N ps : List Str} {k : Nat} {sp : Sp} (D : Dfn K mg x st ps) (S : FnScope N ps (defScope st)) (len : ∀ vs H Q E, sp vs H Q E → vs.length = ps.length)
    (hbody : ∀ (f : Addr) (cdv : Value) (A : Around) (outer : List Env) (s : Shared) (H : Hp) (vs : List V) (Q : VK) (E : XK), Room k (A.deeper (envOfC x (defScope st) s.heap.objs.size f cdv)) → sp vs H Q E →
      ∃ t, PSs (cxOf CX0 P w K mg base N x (defScope st) f cdv A outer s H E).nox (defBody st) t ∧ t { nx := fun _ H' => Q .non H', rt := Q } (start N vs) H) : Kn P w K mg base (k + 1) x ps sp := by
  obtain ⟨f, fd, F, m, b⟩ := D.ex
  exact ⟨f, fd, m, F.kp, b, F.ok S len (hbody f)⟩
section
variable {X : Cx}
theorem pe_kn {j k : Nat} {x : Str} {ps : List Str} {sp : Sp} {p pos : Pos} {e : Expr} {es : List Expr} {t : TA} (F : Kn X.prog X.w X.K X.mg X.base k x ps sp) (hr : Room j X.A) (hg : Gl X x) (ha : PA X (e :: es) t) (hj : k ≤ j := by omega)
    (hdb : (x == ("__debug__" : Str)) = false := by decide) (he : starEach (e :: es) X.env = (false, eval e X.env) :: starEach es X.env := by rfl) (hpl : (backTo pos (starEach es X.env)).any (·.1) = false := by rfl) :
    PE X (.Call (.Name x p) (e :: es) [] pos) (tCall sp [] E0 t) := by
  obtain ⟨f, fd, m, kp, b, G⟩ := F.ex
  exact pe_call G (hr.mono hj) hg m kp b .nil pass0 ha hdb he hpl
end
/-! ### heaps -/
/-- all but s stands -/
def Kp (s : Addr) (H H' : Hp) : Prop := ∀ b o, b ≠ s → H b = some o → H' b = some o
theorem Kp.refl (s : Addr) (H : Hp) : Kp s H H := fun _ _ _ e => e
theorem Kp.trans {s : Addr} {H H1 H2 : Hp} (a : Kp s H H1) (b : Kp s H1 H2) : Kp s H H2 := fun c o n e => b c o n (a c o n e)
theorem Kp.same {s : Addr} {H H1 : Hp} (a : Same H H1) : Kp s H H1 := fun b o _ e => a b o e
theorem Same.new {H : Hp} {p : Addr} (h : H p = none) (o : HO) : Same H (upd H p o) := fun b u q => by rw [upd_ne (ne_of_none q h)]; exact q
theorem Kp.upd {s : Addr} {H : Hp} {o : HO} : Kp s H (upd H s o) := fun b u n e => by rw [upd_ne n]; exact e
/-- the store of the draws at s -/
def Sr (K : PySem.W.Frag) (H : Hp) (s : Addr) (sc : Addr) (ns : List Int) (i b c d e f : Int) : Prop :=
  H s = some (.lst [.ref sc, .int i, .int b, .int c, .int d, .int e, .int f]) ∧ H sc = some (.lst (ns.map V.int)) ∧ s ≠ sc ∧ 0 ≤ i ∧ K.lookup s = none ∧ K.lookup sc = none
def Sto (K : PySem.W.Frag) (H : Hp) (s : Addr) : Prop := ∃ sc ns i b c d e f, Sr K H s sc ns i b c d e f
theorem Sr.same {K : PySem.W.Frag} {H H1 : Hp} {s sc : Addr} {ns : List Int} {i b c d e f : Int} (h : Sr K H s sc ns i b c d e f) (a : Same H H1) : Sr K H1 s sc ns i b c d e f := ⟨a _ _ h.1, a _ _ h.2.1, h.2.2⟩
theorem Sto.same {K : PySem.W.Frag} {H H1 : Hp} {s : Addr} (h : Sto K H s) (a : Same H H1) : Sto K H1 s := by
  obtain ⟨sc, ns, i, b, c, d, e, f, h⟩ := h
  exact ⟨sc, ns, i, b, c, d, e, f, h.same a⟩
theorem Sr.put {K : PySem.W.Frag} {H : Hp} {s sc : Addr} {ns : List Int} {i b c d e f i' b' c' d' e' f' : Int} (h : Sr K H s sc ns i b c d e f) (hi : 0 ≤ i') :
    Sr K (upd H s (.lst [.ref sc, .int i', .int b', .int c', .int d', .int e', .int f'])) s sc ns i' b' c' d' e' f' :=
  ⟨upd_same, by rw [upd_ne (Ne.symm h.2.2.1)]; exact h.2.1, h.2.2.1, hi, h.2.2.2.2⟩
theorem Kp.seqT {s : Addr} {K : PySem.W.Frag} {H H' : Hp} {a : Addr} {xs ys : List V} (e : Kp s H H') (hs : H s = some (.lst ys)) (h : SqT K H a xs) : SqT K H' a xs := by
  rcases h with (h | ⟨o, h⟩) | h
  · exact .inl (.inl (e _ _ (by rintro rfl; rw [hs] at h; cases h) h))
  · exact .inl (.inr ⟨o, e _ _ (by rintro rfl; rw [hs] at h; cases h) h⟩)
  · exact .inr h
theorem Same.seqT {K : PySem.W.Frag} {H H' : Hp} {a : Addr} {xs : List V} (e : Same H H') (h : SqT K H a xs) : SqT K H' a xs := by
  rcases h with (h | ⟨o, h⟩) | h
  · exact .inl (.inl (e _ _ h))
  · exact .inl (.inr ⟨o, e _ _ h⟩)
  · exact .inr h
/-- the built-ins' names, unbound -/
structure Bt (K : PySem.W.Frag) (mg : Str → Option Value) : Prop where
  b_int : mg "int" = none
  b_len : mg "len" = none
  b_list : mg "list" = none
  b_abs : mg "abs" = none
  b_range : mg "range" = none
  b_min : mg "min" = none
  b_max : mg "max" = none
  b_isinstance : mg "isinstance" = none
  b_bool : mg "bool" = none
  b_str : mg "str" = none
  b_dict : mg "dict" = none
  b_tuple : mg "tuple" = none
  g_gcd : mg "gcd" = some (.builtin "math.gcd")
end My

namespace My
open PySem PySem.Spec PyProof.Rows L2
theorem cx_K {CX : CXT} {P : Program} {w : World} {K : PySem.W.Frag} {mg : Str → Option Value} {base : Heap} {N : List Str} {qual : Str} {scope : Scope} {f : Addr} {cd : Value} {A : Around} {outer : List Env} {s : Shared} {H : Hp} {E : XK} : (cxOf CX P w K mg base N qual scope f cd A outer s H E).K = K := rfl
/-! ### what stands at an address, the written part first -/
def obK (o : Obj) : Option HO := match o.cls, o.data with
  | .type "tuple", .seq its _ => if its.size ≤ sizeLine then (its.toList.mapM absV).map HO.tup else none
  | _, _ => none
def ob (K : PySem.W.Frag) (H : Hp) (a : Addr) : Option HO := match K.lookup a with
  | some o => obK o
  | none => H a
theorem absV_rel {u : Value} {x : V} (h : absV u = some x) : RelV x u := by
  cases u <;> simp only [absV, Option.some.injEq, reduceCtorEq] at h <;> subst h
  all_goals first | exact rfl | exact ⟨_, rfl⟩
theorem absV_all : ∀ {us : List Value} {xs : List V}, us.mapM absV = some xs → Vals xs us
  | [], xs, h => by
    simp at h
    subst h
    exact .nil
  | u :: us, xs, h => by
    rw [List.mapM_cons] at h
    cases e1 : absV u with
    | none => simp [e1] at h
    | some x =>
      cases e2 : us.mapM absV with
      | none => simp [e1, e2] at h
      | some r =>
        simp [e1, e2] at h
        subst h
        exact .cons (absV_rel e1) (absV_all e2)
theorem obK_tup {o : Obj} {z : HO} (h : obK o = some z) : ∃ xs its n, z = .tup xs ∧ o.cls = .type "tuple" ∧ o.data = .seq its n ∧ its.size ≤ sizeLine ∧ Vals xs its.toList := by
  unfold obK at h
  split at h
  · rename_i its n e1 e2
    split at h
    · rename_i hz
      cases e : its.toList.mapM absV with
      | none => rw [e] at h; cases h
      | some xs =>
        rw [e] at h
        exact ⟨xs, its, n, (Option.some.inj h).symm, e1, e2, hz, absV_all e⟩
    · cases h
  · cases h
theorem ob_none {K : PySem.W.Frag} {H : Hp} {a : Addr} (h : K.lookup a = none) : ob K H a = H a := by unfold ob; rw [h]
theorem ob_tup {K : PySem.W.Frag} {H : Hp} {a : Addr} {xs : List V} (h : ob K H a = some (.tup xs)) : SqT K H a xs := by
  unfold ob at h
  split at h
  · rename_i o e
    obtain ⟨ys, its, n, z, h1, h2, h3, h4⟩ := obK_tup h
    cases z
    exact .inr ⟨o, its, n, e, h1, h2, h3, h4⟩
  · exact .inl (.inl h)
theorem ob_H {K : PySem.W.Frag} {H : Hp} {a : Addr} {z : HO} (h : ob K H a = some z) (n : ∀ xs, z ≠ .tup xs) : H a = some z ∧ K.lookup a = none := by
  unfold ob at h
  split at h
  · obtain ⟨ys, its, n', z', _⟩ := obK_tup h
    exact absurd z' (n ys)
  · rename_i e
    exact ⟨h, e⟩
theorem ob_lst {K : PySem.W.Frag} {H : Hp} {a : Addr} {xs : List V} (h : ob K H a = some (.lst xs)) : SqL K H a xs := .of (ob_H h (fun _ z => by cases z)).1
theorem ob_same {K : PySem.W.Frag} {H H' : Hp} {a : Addr} {z : HO} (e : Same H H') (h : ob K H a = some z) : ob K H' a = some z := by
  unfold ob at h ⊢
  split
  · rename_i o q
    rw [q] at h
    exact h
  · rename_i q
    rw [q] at h
    exact e _ _ h
theorem ob_kp {K : PySem.W.Frag} {H H' : Hp} {s a : Addr} {ys : List V} {z : HO} (e : Kp s H H') (hs : H s = some (.lst ys)) (n : ∀ ys, z ≠ .lst ys) (h : ob K H a = some z) : ob K H' a = some z := by
  unfold ob at h ⊢
  split
  · rename_i o q
    rw [q] at h
    exact h
  · rename_i q
    rw [q] at h
    exact e _ _ (by rintro rfl; rw [hs] at h; exact n _ (Option.some.inj h).symm) h
theorem ob_new {K : PySem.W.Frag} {H : Hp} {p : Addr} {o : HO} (k : K.lookup p = none) : ob K (upd H p o) p = some o := by rw [ob_none k, upd_same]
/-- a built-in type's name, of what stands somewhere -/
def tyO : Option HO → Option String
  | some (.tup _) => some "tuple"
  | some (.lst _) => some "list"
  | some (.dK _) => some "dict"
  | _ => none
def tyN (K : PySem.W.Frag) (H : Hp) : V → Option String
  | .non => some "NoneType"
  | .bl _ => some "bool"
  | .int _ => some "int"
  | .str _ => some "str"
  | .ref a => tyO (ob K H a)
  | _ => none
theorem tyO_tup (xs : List V) : tyO (some (.tup xs)) = some "tuple" := rfl
theorem tyO_lst (xs : List V) : tyO (some (.lst xs)) = some "list" := rfl
theorem tyO_dK (xs : List (Key × V)) : tyO (some (.dK xs)) = some "dict" := rfl
theorem tyN_non {K : PySem.W.Frag} {H : Hp} : tyN K H .non = some "NoneType" := rfl
theorem tyN_bl {K : PySem.W.Frag} {H : Hp} (b : Bool) : tyN K H (.bl b) = some "bool" := rfl
theorem tyN_int {K : PySem.W.Frag} {H : Hp} (b : Int) : tyN K H (.int b) = some "int" := rfl
theorem tyN_str {K : PySem.W.Frag} {H : Hp} (b : Str) : tyN K H (.str b) = some "str" := rfl
theorem tyN_ref {K : PySem.W.Frag} {H : Hp} (a : Addr) : tyN K H (.ref a) = tyO (ob K H a) := rfl
theorem tyN_X {K : PySem.W.Frag} {H : Hp} {x : V} {t : String} (h : tyN K H x = some t) : TyX K H x (.type t) := by
  cases x with
  | non => cases h; exact .base .non
  | bl b => cases h; exact .base (.bl b)
  | int i => cases h; exact .base (.int i)
  | str z => cases h; exact .base (.str z)
  | byt _ => cases h
  | flt _ => cases h
  | ty _ => cases h
  | ref a =>
    have h1 : tyO (ob K H a) = some t := h
    cases e : ob K H a with
    | none => rw [e] at h1; cases h1
    | some z =>
      rw [e] at h1
      cases z with
      | tup xs =>
        cases h1
        unfold ob at e
        split at e
        · rename_i o q
          obtain ⟨_, _, _, _, c, _⟩ := obK_tup e
          exact .kTuple q c
        · exact .base (.tup e)
      | lst xs => cases h1; exact .base (.lst (ob_H e (fun _ z => by cases z)).1)
      | dK kvs => cases h1; exact .base (.dK (ob_H e (fun _ z => by cases z)).1)
      | _ => cases h1
/-- isinstance(x, T) by names -/
def isB (a b : String) : Bool := a == b || (a == "bool" && b == "int")
def rIsN (K : PySem.W.Frag) : List V → Hp → VK → Prop := fun xs H Q => ∃ x n, xs = [x, .ty n] ∧ n ∈ ["int", "bool", "str", "list", "tuple", "dict"] ∧ ∃ t, tyN K H x = some t ∧ Q (.bl (isB t n)) H
theorem tyN_mem {K : PySem.W.Frag} {H : Hp} {x : V} {t : String} (h : tyN K H x = some t) : t ∈ ["NoneType", "bool", "int", "str", "tuple", "list", "dict"] := by
  cases x with
  | non => cases h; decide
  | bl b => cases h; decide
  | int i => cases h; decide
  | str z => cases h; decide
  | byt _ => cases h
  | flt _ => cases h
  | ty _ => cases h
  | ref a =>
    have h1 : tyO (ob K H a) = some t := h
    unfold tyO at h1
    split at h1 <;> first | (cases h1; decide) | cases h1
theorem kit_all : ∀ t ∈ ["NoneType", "bool", "int", "str", "tuple", "list", "dict"], ∀ n ∈ ["int", "bool", "str", "list", "tuple", "dict"], kitB t n = some (isB t n) := by decide +kernel
/-- isinstance(x, (T, ..)) -/
def tyNs : List V → Option (List String)
  | [] => some []
  | .ty n :: r => if n ∈ ["int", "bool", "str", "list", "tuple", "dict"] then (tyNs r).map (n :: ·) else none
  | _ :: _ => none
theorem tyNs_of : ∀ {cs : List V} {ns : List String}, tyNs cs = some ns → cs = ns.map V.ty ∧ ∀ n ∈ ns, n ∈ ["int", "bool", "str", "list", "tuple", "dict"]
  | [], ns, h => by cases h; exact ⟨rfl, fun _ z => absurd z (by simp)⟩
  | c :: r, ns, h => by
    cases c with
    | ty n =>
      unfold tyNs at h
      split at h
      · rename_i hn
        cases e : tyNs r with
        | none => rw [e] at h; cases h
        | some ms =>
          rw [e] at h
          cases h
          obtain ⟨h1, h2⟩ := tyNs_of e
          refine ⟨by rw [h1]; rfl, fun m hm => ?_⟩
          rcases List.mem_cons.mp hm with z | z
          · rw [z]; exact hn
          · exact h2 m z
      · cases h
    | _ => cases h
theorem tyNs_lt : tyNs [.ty "list", .ty "tuple"] = some ["list", "tuple"] := by decide
def rIsT (K : PySem.W.Frag) : List V → Hp → VK → Prop := fun xs H Q => ∃ x tp, xs = [x, .ref tp] ∧ ∃ cs, H tp = some (.tup cs) ∧ ∃ ns, tyNs cs = some ns ∧ ∃ t, tyN K H x = some t ∧ Q (.bl (ns.any (isB t))) H
section
variable {X : Cx}
theorem call_isN : CallR X (.builtin "isinstance") (rIsN X.K) := fun pins s σ H xs us Q I r h => by
  obtain ⟨x, n, rfl, hn, t, ht, q⟩ := h
  exact call_isi pins s σ H _ us Q I r ⟨x, .ty n, .type t, .type n, isB t n, rfl, .ty n, tyN_X ht, kit_ty (kit_all t (tyN_mem ht) n hn), q⟩
theorem kitAny_of {K : PySem.W.Frag} {t : String} (ht : t ∈ ["NoneType", "bool", "int", "str", "tuple", "list", "dict"]) : ∀ {ns : List String}, (∀ n ∈ ns, n ∈ ["int", "bool", "str", "list", "tuple", "dict"]) → PySem.W.kitAny K (.type t) (ns.map Value.type) = some (ns.any (isB t))
  | [], _ => rfl
  | n :: ns, h => by
    have e1 : PySem.W.kitOne K (.type t) (.type n) = some (isB t n) := kit_ty (kit_all t ht n (h n List.mem_cons_self))
    have e2 := kitAny_of (K := K) ht (ns := ns) fun m hm => h m (List.mem_cons_of_mem _ hm)
    rw [List.map_cons, List.any_cons]
    unfold PySem.W.kitAny
    rw [e1]
    cases isB t n
    · simpa using e2
    · rfl
theorem clsV_all : ∀ ns : List String, Paired ClsV (ns.map V.ty) (ns.map Value.type)
  | [] => .nil
  | n :: ns => .cons (.ty n) (clsV_all ns)
theorem call_isT : CallR X (.builtin "isinstance") (rIsT X.K) := fun pins s σ H xs us Q I r h => by
  obtain ⟨x, tp, rfl, cs, hT, ns, hns, t, ht, q⟩ := h
  obtain ⟨rfl, hn⟩ := tyNs_of hns
  exact call_isiT pins s σ H _ us Q I r ⟨x, tp, _, .type t, _, _, rfl, hT, clsV_all ns, tyN_X ht, kitAny_of (tyN_mem ht) hn, q⟩
/-- xs[i], t[i] -/
def itsO : Option HO → Option (List V)
  | some (.tup xs) => some xs
  | some (.lst xs) => some xs
  | _ => none
theorem itsO_tup (xs : List V) : itsO (some (.tup xs)) = some xs := rfl
theorem itsO_lst (xs : List V) : itsO (some (.lst xs)) = some xs := rfl
theorem itsO_or {K : PySem.W.Frag} {H : Hp} {a : Addr} {xs : List V} (h : itsO (ob K H a) = some xs) : SqL K H a xs ∨ SqT K H a xs := by
  cases e : ob K H a with
  | none => rw [e] at h; cases h
  | some z =>
    rw [e] at h
    cases z with
    | tup ys => cases h; exact .inr (ob_tup e)
    | lst ys => cases h; exact .inl (ob_lst e)
    | _ => cases h
def rIxA (K : PySem.W.Frag) : R2 := fun x y H Q => ∃ p i, x = .ref p ∧ y = .int i ∧ ∃ xs, itsO (ob K H p) = some xs ∧ ∃ v, atI xs i = some v ∧ Q v H
theorem ix_any : IxR X (rIxA X.K) := fun value slice pins s σ H x y v u Q I rx ry h hs => by
  obtain ⟨p, i, rfl, rfl, xs, hx, w, hw, q⟩ := h
  rcases itsO_or hx with z | z
  · exact ix_list value slice pins s σ H _ _ v u Q I rx ry ⟨p, xs, i, w, rfl, rfl, z, hw, q⟩ hs
  · exact ix_tup value slice pins s σ H _ _ v u Q I rx ry ⟨p, xs, i, w, rfl, rfl, z, hw, q⟩ hs
theorem call_lenA : CallR X (.builtin "len") (fun xs H Q => ∃ p, xs = [.ref p] ∧ ∃ ys, itsO (ob X.K H p) = some ys ∧ Q (.int ys.length) H) := fun pins s σ H xs us Q I r h => by
  obtain ⟨p, rfl, ys, hy, q⟩ := h
  exact call_len_seq pins s σ H _ us Q I r ⟨p, ys, rfl, itsO_or hy, q⟩
/-! new tuples and lists, away from the written part -/
variable {es : List Expr} {t : TA} {pos : Pos}
def tTp (K : PySem.W.Frag) (t : TA) : TE := fun σ H Q => t σ H fun xs H1 => xs.length ≤ sizeLine ∧ ∀ p, H1 p = none → K.lookup p = none → Q (.ref p) (upd H1 p (.tup xs))
def tLs (K : PySem.W.Frag) (t : TA) : TE := fun σ H Q => t σ H fun xs H1 => xs.length ≤ sizeLine ∧ ∀ p, H1 p = none → K.lookup p = none → Q (.ref p) (upd H1 p (.lst xs))
theorem new_K {pins : List (Addr × Obj)} {σ : L2.St} {H : Hp} {s : Shared} (I : Inv X pins σ H s) : X.K.lookup s.heap.objs.size = none := by
  cases e : X.K.lookup s.heap.objs.size with
  | none => rfl
  | some o => exact absurd (Heap.lt_size (I.kIn _ _ e)) (Nat.lt_irrefl _)
theorem pe_tp {x1} (h : PA X es t) : PE X (.Tuple es x1 pos) (tTp X.K t) := by
  refine ⟨fun pins s σ H Q I hq => ?_⟩
  refine wpAny_Tuple_spliced (thn (h.run pos pins s σ H _ I hq) fun us s1 ⟨xs, H1, I1, r, z, q⟩ => ⟨by rw [← r.length]; exact z, ?_⟩)
  have hf : H1 s1.heap.objs.size = none := I1.hok.fresh (Nat.le_refl _)
  refine ⟨.ref s1.heap.objs.size, upd H1 s1.heap.objs.size (.tup xs), I1.laid (t' := s1.toks) (fun b u e => Heap.get?_push_of_some _ e) (Nat.le_refl _) ?_, rfl, q _ hf (new_K I1)⟩
  exact ⟨z, us, r, ⟨_, Heap.get?_push_size _ rfl, rfl, _, rfl⟩⟩
theorem pe_ls (h : PA X es t) : PE X (.List es pos) (tLs X.K t) := by
  refine ⟨fun pins s σ H Q I hq => ?_⟩
  refine wpAny_List_spliced (thn (h.run pos pins s σ H _ I hq) fun us s1 ⟨xs, H1, I1, r, z, q⟩ => ⟨by rw [← r.length]; exact z, ?_⟩)
  have hf : H1 s1.heap.objs.size = none := I1.hok.fresh (Nat.le_refl _)
  refine ⟨.ref s1.heap.objs.size, upd H1 s1.heap.objs.size (.lst xs), I1.laid (t' := s1.toks) (fun b u e => Heap.get?_push_of_some _ e) (Nat.le_refl _) ?_, rfl, q _ hf (new_K I1)⟩
  exact ⟨z, us, 0, r, Heap.get?_push_size _ rfl⟩
end
/-- a, b = t -/
def gTp (K : PySem.W.Frag) (n : Nat) (t : TGs) : TG := fun v σ H Q => ∃ a, v = .ref a ∧ ∃ xs, ob K H a = some (.tup xs) ∧ xs.length = n ∧ t xs σ H Q
theorem pg_tp {X : Cx} {pos : Pos} {es : List Expr} {k : Nat} {t : TGs} (n : Nat) (hc : X.calm = true) (h : PGs X es t) (hn : (assignEach es X.env).length = n := by rfl) (hst : (assignEach es X.env).findIdx? (·.1) = none := by rfl) : PG X (.Tuple es k pos) (gTp X.K n t) :=
  ⟨fun pins s σ H v u Q I r hw => by
    obtain ⟨a, e, xs, hx, hl, q⟩ := hw
    exact (pg_tup (n := n) hc h hn hst).run pins s σ H v u Q I r ⟨a, xs, e, ob_tup hx, hl, q⟩⟩
/-- {} -/
def tDn (K : PySem.W.Frag) : TE := fun _ H Q => ∀ p, H p = none → K.lookup p = none → Q (.ref p) (upd H p (.dK []))
theorem pe_dn {X : Cx} {pos : Pos} : PE X (.Dict [] [] pos) (tDn X.K) := ⟨fun pins s σ H Q I h => by
  refine wpAny_Dict_empty ⟨.ref s.heap.objs.size, upd H s.heap.objs.size (.dK []), ?_, rfl, h _ (I.hok.fresh (Nat.le_refl _)) (new_K I)⟩
  exact I.laid (t' := s.toks) (fun _ _ e => Heap.get?_push_of_some _ e) (Nat.le_refl _) (dk_empty s.heap I.big)⟩
/-! ### loops -/
def ForI (J : It) (g : TG) (tb : TS) (D : Ends) (σ : L2.St) (H : Hp) : Prop := ∃ W : Nat → Nat → L2.St → Hp → Prop, (∃ m, W 0 m σ H) ∧ ∀ i m σ H, W i m σ H →
  (J.stop i H ∧ D.nx σ H) ∨ (J.go i H ∧ ∃ N : L2.St → Hp → Prop, (∀ σ' H', N σ' H' → ∃ m', m' < m ∧ W (i + 1) m' σ' H') ∧ ∀ x H', J.yld i H x H' → g x σ H' fun σ2 H2 => tb { D with nx := N, ct := N, bk := D.nx } σ2 H2)
theorem tFor_eq (wi : TI) (g : TG) (tb : TS) (D : Ends) (σ : L2.St) (H : Hp) : tFor wi g tb D σ H = wi σ H fun J H1 => ForI J g tb D σ H1 := rfl
section
variable {g : TG} {tb : TS} {D : Ends} {σ : L2.St} {H : Hp}
theorem forI_range {lo : Int} {n : Nat} (Pv : Nat → L2.St → Hp → Prop) (h0 : Pv 0 σ H)
    (hs : ∀ i σ H, i < n → Pv i σ H → g (.int (lo + i)) σ H fun σ2 H2 => tb { D with nx := Pv (i + 1), ct := Pv (i + 1), bk := D.nx } σ2 H2) (hd : ∀ σ H, Pv n σ H → D.nx σ H) : ForI (Itr lo n) g tb D σ H := for_range Pv h0 hs hd
theorem forI_list {K : PySem.W.Frag} {a : Addr} {xs : List V} (Pv : Nat → L2.St → Hp → Prop) (h0 : Pv 0 σ H) (hl : ∀ i σ H, i ≤ xs.length → Pv i σ H → SqL K H a xs)
    (hs : ∀ i x σ H, xs[i]? = some x → Pv i σ H → g x σ H fun σ2 H2 => tb { D with nx := Pv (i + 1), ct := Pv (i + 1), bk := D.nx } σ2 H2) (hd : ∀ σ H, Pv xs.length σ H → D.nx σ H) : ForI (Itl K a) g tb D σ H := for_list Pv h0 hl hs hd
theorem forI_tup {K : PySem.W.Frag} {a : Addr} {xs : List V} (Pv : Nat → L2.St → Hp → Prop) (h0 : Pv 0 σ H) (hl : ∀ i σ H, i ≤ xs.length → Pv i σ H → SqT K H a xs)
    (hs : ∀ i x σ H, xs[i]? = some x → Pv i σ H → g x σ H fun σ2 H2 => tb { D with nx := Pv (i + 1), ct := Pv (i + 1), bk := D.nx } σ2 H2) (hd : ∀ σ H, Pv xs.length σ H → D.nx σ H) : ForI (Itt K a) g tb D σ H := for_tup Pv h0 hl hs hd
end
theorem ca_0 : ((0 : Nat) : Int) = 0 := rfl
theorem ca_1 : ((1 : Nat) : Int) = 1 := rfl
theorem ca_2 : ((2 : Nat) : Int) = 2 := rfl
theorem ca_3 : ((3 : Nat) : Int) = 3 := rfl
theorem ca_4 : ((4 : Nat) : Int) = 4 := rfl
theorem ca_5 : ((5 : Nat) : Int) = 5 := rfl
theorem ca_6 : ((6 : Nat) : Int) = 6 := rfl
theorem ca_7 : ((7 : Nat) : Int) = 7 := rfl
theorem ca_8 : ((8 : Nat) : Int) = 8 := rfl
theorem ca_9 : ((9 : Nat) : Int) = 9 := rfl
theorem ca_10 : ((10 : Nat) : Int) = 10 := rfl
theorem ca_11 : ((11 : Nat) : Int) = 11 := rfl
theorem ca_12 : ((12 : Nat) : Int) = 12 := rfl
theorem ca_13 : ((13 : Nat) : Int) = 13 := rfl
theorem ca_14 : ((14 : Nat) : Int) = 14 := rfl
theorem ca_15 : ((15 : Nat) : Int) = 15 := rfl
theorem ca_16 : ((16 : Nat) : Int) = 16 := rfl
theorem ca_17 : ((17 : Nat) : Int) = 17 := rfl
theorem ca_18 : ((18 : Nat) : Int) = 18 := rfl
theorem ca_19 : ((19 : Nat) : Int) = 19 := rfl
theorem ca_20 : ((20 : Nat) : Int) = 20 := rfl
theorem ca_21 : ((21 : Nat) : Int) = 21 := rfl
theorem ca_22 : ((22 : Nat) : Int) = 22 := rfl
theorem ca_23 : ((23 : Nat) : Int) = 23 := rfl
theorem ca_24 : ((24 : Nat) : Int) = 24 := rfl
theorem ca_25 : ((25 : Nat) : Int) = 25 := rfl
theorem ca_26 : ((26 : Nat) : Int) = 26 := rfl
theorem ca_27 : ((27 : Nat) : Int) = 27 := rfl
theorem ca_28 : ((28 : Nat) : Int) = 28 := rfl
theorem ca_29 : ((29 : Nat) : Int) = 29 := rfl
theorem ca_30 : ((30 : Nat) : Int) = 30 := rfl
theorem nat10 : (10 : Int).natAbs = 10 := rfl
/-- list(xs), away from the written part -/
theorem call_listK {X : Cx} : CallR X (.type "list") (fun xs H Q => ∃ p, xs = [.ref p] ∧ ∃ ys, (SqL X.K H p ys ∨ SqT X.K H p ys) ∧ ∀ l, H l = none → X.K.lookup l = none → Q (.ref l) (upd H l (.lst ys))) := fun pins s σ H xs us Q I r h => by
  obtain ⟨p, e0, ys, hy, k⟩ := h
  subst e0
  obtain ⟨u, e1, ru⟩ := vals1 r
  subst e1
  cases ru
  have laid (its : List Value) (rv : Vals ys its) (hz : ys.length ≤ sizeLine) (hh : Heap) (cap : Nat) (kp : ∀ b o, s.heap.get? b = some o → hh.get? b = some o)
      (e : hh.get? s.heap.objs.size = some { cls := .type "list", dict := none, data := .seq its.toArray cap, slots := #[] }) : EP X pins σ Q (.ref s.heap.objs.size) { s with heap := hh } := by
    have ok : ObjOk X.prog X.w (upd H s.heap.objs.size (.lst ys)) hh s.heap.objs.size (.lst ys) := ⟨hz, its, cap, rv, e⟩
    exact ⟨.ref s.heap.objs.size, _, I.laid (t' := s.toks) kp (Nat.le_refl _) ok, rfl, k _ (I.hok.fresh (Nat.le_refl _)) (new_K I)⟩
  cases hy with
  | inl hy =>
    obtain ⟨its, rv, pl, hz⟩ := I.list hy
    obtain ⟨o, ho, hc, n, hd⟩ := pl.isList
    have hl := rv.length
    exact call_list_seq p (.inl rfl) ho hc hd (laid its rv hz) (by simp only [List.size_toArray]; omega)
  | inr hy =>
    obtain ⟨its, rv, pl, hz⟩ := I.tuple hy
    obtain ⟨o, ho, hc, n, hd⟩ := pl
    have hl := rv.length
    exact call_list_seq p (.inr rfl) ho hc hd (laid its rv hz) (by simp only [List.size_toArray]; omega)
/-- xs[i] = v -/
def setI (xs : List V) (i : Int) (v : V) : Option (List V) := (ixN xs.length i).map fun j => xs.set j v
theorem setI_nat {xs ys : List V} {j : Nat} {v : V} (h : j < xs.length) (e : xs.set j v = ys) : setI xs (j : Int) v = some ys := by
  have e1 : ixN xs.length (j : Int) = some j := by
    unfold ixN
    rw [if_pos (by omega), if_pos (by omega)]
    simp
  unfold setI
  rw [e1, ← e]
  rfl
def rSetA : V → V → V → Hp → (Hp → Prop) → Prop := fun o i v H Q => ∃ p k, o = .ref p ∧ i = .int k ∧ ∃ xs, H p = some (.lst xs) ∧ ∃ ys, setI xs k v = some ys ∧ Q (upd H p (.lst ys))
section
variable {X : Cx}
theorem set_any : PSet X rSetA := by
  intro pins s σ H o i v uo ui uv Q I ro ri rv h
  obtain ⟨p, k, rfl, rfl, xs, hx, ys, hy, q⟩ := h
  unfold setI at hy
  cases e : ixN xs.length k with
  | none => rw [e] at hy; cases hy
  | some j =>
    rw [e] at hy
    cases hy
    exact set_list pins s σ H _ _ _ uo ui uv Q I ro ri rv ⟨p, xs, k, j, rfl, rfl, hx, e, q⟩
end
theorem atI_0 {α : Type} (x0 : α) (l : List α) : atI (x0 :: l) 0 = some x0 := atI_nat (j := 0) rfl
theorem setI_0 (x0 v : V) (l : List V) : setI (x0 :: l) 0 v = some (v :: l) := setI_nat (j := 0) (by simp) (by rfl)
theorem atI_1 {α : Type} (x0 x1 : α) (l : List α) : atI (x0 :: x1 :: l) 1 = some x1 := atI_nat (j := 1) rfl
theorem setI_1 (x0 x1 v : V) (l : List V) : setI (x0 :: x1 :: l) 1 v = some (x0 :: v :: l) := setI_nat (j := 1) (by simp) (by rfl)
theorem atI_2 {α : Type} (x0 x1 x2 : α) (l : List α) : atI (x0 :: x1 :: x2 :: l) 2 = some x2 := atI_nat (j := 2) rfl
theorem setI_2 (x0 x1 x2 v : V) (l : List V) : setI (x0 :: x1 :: x2 :: l) 2 v = some (x0 :: x1 :: v :: l) := setI_nat (j := 2) (by simp) (by rfl)
theorem atI_3 {α : Type} (x0 x1 x2 x3 : α) (l : List α) : atI (x0 :: x1 :: x2 :: x3 :: l) 3 = some x3 := atI_nat (j := 3) rfl
theorem setI_3 (x0 x1 x2 x3 v : V) (l : List V) : setI (x0 :: x1 :: x2 :: x3 :: l) 3 v = some (x0 :: x1 :: x2 :: v :: l) := setI_nat (j := 3) (by simp) (by rfl)
theorem atI_4 {α : Type} (x0 x1 x2 x3 x4 : α) (l : List α) : atI (x0 :: x1 :: x2 :: x3 :: x4 :: l) 4 = some x4 := atI_nat (j := 4) rfl
theorem setI_4 (x0 x1 x2 x3 x4 v : V) (l : List V) : setI (x0 :: x1 :: x2 :: x3 :: x4 :: l) 4 v = some (x0 :: x1 :: x2 :: x3 :: v :: l) := setI_nat (j := 4) (by simp) (by rfl)
theorem atI_5 {α : Type} (x0 x1 x2 x3 x4 x5 : α) (l : List α) : atI (x0 :: x1 :: x2 :: x3 :: x4 :: x5 :: l) 5 = some x5 := atI_nat (j := 5) rfl
theorem setI_5 (x0 x1 x2 x3 x4 x5 v : V) (l : List V) : setI (x0 :: x1 :: x2 :: x3 :: x4 :: x5 :: l) 5 v = some (x0 :: x1 :: x2 :: x3 :: x4 :: v :: l) := setI_nat (j := 5) (by simp) (by rfl)
theorem atI_6 {α : Type} (x0 x1 x2 x3 x4 x5 x6 : α) (l : List α) : atI (x0 :: x1 :: x2 :: x3 :: x4 :: x5 :: x6 :: l) 6 = some x6 := atI_nat (j := 6) rfl
theorem setI_6 (x0 x1 x2 x3 x4 x5 x6 v : V) (l : List V) : setI (x0 :: x1 :: x2 :: x3 :: x4 :: x5 :: x6 :: l) 6 v = some (x0 :: x1 :: x2 :: x3 :: x4 :: x5 :: v :: l) := setI_nat (j := 6) (by simp) (by rfl)
end My

namespace My
open PySem PySem.Spec PyProof.Rows L2
/-! ### numbers: fractions in lowest terms -/
abbrev Qt := Int × Int
def Nf (q : Qt) : Prop := 1 ≤ q.2 ∧ Int.gcd q.1 q.2 = 1
/-- q is t / b in lowest terms -/
def Is (q : Qt) (t b : Int) : Prop := Nf q ∧ q.1 * b = t * q.2
def Sz (k : Nat) (q : Qt) : Prop := q.1.natAbs < 2 ^ k ∧ q.2.natAbs < 2 ^ k
theorem nf_cop {q : Qt} (h : Nf q) : Nat.Coprime q.1.natAbs q.2.natAbs := h.2
theorem nf_unique {p q : Qt} (hp : Nf p) (hq : Nf q) (h : p.1 * q.2 = q.1 * p.2) : p = q := by
  have h1 : p.1.natAbs * q.2.natAbs = q.1.natAbs * p.2.natAbs := by rw [← Int.natAbs_mul, ← Int.natAbs_mul, h]
  have d1 : p.2.natAbs ∣ q.2.natAbs := (nf_cop hp).symm.dvd_of_dvd_mul_left (n := q.2.natAbs) (m := p.1.natAbs) (by rw [h1]; exact Nat.dvd_mul_left _ _)
  have d2 : q.2.natAbs ∣ p.2.natAbs := (nf_cop hq).symm.dvd_of_dvd_mul_left (n := p.2.natAbs) (m := q.1.natAbs) (by rw [← h1]; exact Nat.dvd_mul_left _ _)
  have e := Nat.dvd_antisymm d1 d2
  have a1 := hp.1
  have a2 := hq.1
  have e2 : p.2 = q.2 := by omega
  rw [e2] at h
  have e1 : p.1 = q.1 := Int.eq_of_mul_eq_mul_right (show q.2 ≠ 0 by omega) h
  exact Prod.ext e1 e2
theorem is_unique {p q : Qt} {t b : Int} (hb : b ≠ 0) (hp : Is p t b) (hq : Is q t b) : p = q := by
  refine nf_unique hp.1 hq.1 ?_
  have h1 := hp.2
  have h2 := hq.2
  have h3 : b * (p.1 * q.2) = b * (q.1 * p.2) := by
    have e1 : b * (p.1 * q.2) = (p.1 * b) * q.2 := by rw [Int.mul_comm p.1 b, Int.mul_assoc]
    have e2 : b * (q.1 * p.2) = (q.1 * b) * p.2 := by rw [Int.mul_comm q.1 b, Int.mul_assoc]
    rw [e1, e2, h1, h2, Int.mul_assoc, Int.mul_assoc, Int.mul_comm p.2 q.2]
  exact Int.eq_of_mul_eq_mul_left hb h3
theorem is_le {q : Qt} {t b : Int} (hb : b ≠ 0) (h : Is q t b) : q.1.natAbs ≤ t.natAbs ∧ q.2.natAbs ≤ b.natAbs := by
  have h1 : q.1.natAbs * b.natAbs = t.natAbs * q.2.natAbs := by rw [← Int.natAbs_mul, ← Int.natAbs_mul, h.2]
  have d : q.2.natAbs ∣ b.natAbs := (nf_cop h.1).symm.dvd_of_dvd_mul_left (n := b.natAbs) (m := q.1.natAbs) (by rw [h1]; exact Nat.dvd_mul_left _ _)
  have hb' : 0 < b.natAbs := by omega
  have le2 := Nat.le_of_dvd hb' d
  refine ⟨?_, le2⟩
  have q2 : 0 < q.2.natAbs := by have := h.1.1; omega
  have h2 : q.1.natAbs * q.2.natAbs ≤ t.natAbs * q.2.natAbs := by rw [← h1]; exact Nat.mul_le_mul_left _ le2
  exact Nat.le_of_mul_le_mul_right h2 q2
theorem is_sz {q : Qt} {t b : Int} {k : Nat} (hb : b ≠ 0) (h : Is q t b) (ht : t.natAbs < 2 ^ k) (hk : b.natAbs < 2 ^ k) : Sz k q :=
  ⟨Nat.lt_of_le_of_lt (is_le hb h).1 ht, Nat.lt_of_le_of_lt (is_le hb h).2 hk⟩
/-- exact division by the greatest common divisor -/
theorem gcd_pos {t b : Int} (hb : b ≠ 0) : 0 < Int.gcd t b := Nat.gcd_pos_of_pos_right _ (by omega)
theorem gcd_le {t b : Int} (hb : b ≠ 0) : Int.gcd t b ≤ b.natAbs := Nat.le_of_dvd (by omega) (Nat.gcd_dvd_right _ _)
theorem is_div {t b : Int} (hb : 0 < b) : Is (t / (Int.gcd t b : Nat), b / (Int.gcd t b : Nat)) t b := by
  have hg := gcd_pos (t := t) (b := b) (by omega)
  obtain ⟨x, hx⟩ := Int.gcd_dvd_left (a := t) (b := b)
  obtain ⟨y, hy⟩ := Int.gcd_dvd_right (a := t) (b := b)
  have hg' : ((Int.gcd t b : Nat) : Int) ≠ 0 := by omega
  have e1 : t / (Int.gcd t b : Nat) = x := by conv => lhs; lhs; rw [hx]
                                              exact Int.mul_ediv_cancel_left _ hg'
  have e2 : b / (Int.gcd t b : Nat) = y := by conv => lhs; lhs; rw [hy]
                                              exact Int.mul_ediv_cancel_left _ hg'
  rw [e1, e2]
  have hy0 : 0 < y := by
    rcases Int.lt_trichotomy y 0 with z | z | z
    · have := Int.mul_neg_of_pos_of_neg (show (0 : Int) < (Int.gcd t b : Nat) by omega) z
      omega
    · rw [z, Int.mul_zero] at hy
      omega
    · exact z
  refine ⟨⟨by show 1 ≤ y; omega, ?_⟩, ?_⟩
  · show Int.gcd x y = 1
    have h : Int.gcd t b = Int.gcd t b * Int.gcd x y := by
      have k : Int.gcd (((Int.gcd t b : Nat) : Int) * x) (((Int.gcd t b : Nat) : Int) * y) = Int.gcd t b * Int.gcd x y := by rw [Int.gcd_mul_left, Int.natAbs_natCast]
      rwa [← hx, ← hy] at k
    exact Nat.eq_of_mul_eq_mul_left hg (by rw [← h, Nat.mul_one])
  · show x * b = t * y
    conv => lhs; rw [hy]
    conv => rhs; rw [hx]
    rw [← Int.mul_assoc, Int.mul_comm x]
theorem is_neg {q : Qt} {t b : Int} (h : Is q (-t) (-b)) : Is q t b := ⟨h.1, by have := h.2; rw [Int.mul_neg, Int.neg_mul] at this; omega⟩
theorem gcd_neg2 (t b : Int) : Int.gcd (-t) (-b) = Int.gcd t b := by rw [Int.gcd_neg, Int.neg_gcd]
/-- what fraction hands back -/
theorem is_fdiv {t b : Int} (hb : b ≠ 0) : Is (t.fdiv (if b < 0 then -((Int.gcd t b : Nat) : Int) else (Int.gcd t b : Nat)), b.fdiv (if b < 0 then -((Int.gcd t b : Nat) : Int) else (Int.gcd t b : Nat))) t b := by
  by_cases h : b < 0
  · rw [if_pos h]
    have e := is_div (t := -t) (b := -b) (by omega)
    rw [gcd_neg2] at e
    have k : ∀ x : Int, x.fdiv (-((Int.gcd t b : Nat) : Int)) = (-x) / ((Int.gcd t b : Nat) : Int) := fun x => by
      rw [← Int.fdiv_eq_ediv_of_nonneg _ (by omega), ← Int.neg_fdiv_neg (-x), Int.neg_neg]
    rw [k, k]
    exact is_neg e
  · rw [if_neg h, Int.fdiv_eq_ediv_of_nonneg _ (by omega), Int.fdiv_eq_ediv_of_nonneg _ (by omega)]
    exact is_div (by omega)
theorem mulW {i j : Int} {a b : Nat} (ha : i.natAbs < 2 ^ a) (hb : j.natAbs < 2 ^ b) (h : a + b ≤ 900000) : CMulW i j := by
  refine wide_mul (a := a + 1) (b := b + 1) (Nat.lt_of_lt_of_le ha (Nat.pow_le_pow_right (by omega) (by omega))) (Nat.lt_of_lt_of_le hb (Nat.pow_le_pow_right (by omega) (by omega))) (by omega) (by omega) (by omega)
theorem szMul {i j : Int} {a b : Nat} (ha : i.natAbs < 2 ^ a) (hb : j.natAbs < 2 ^ b) : (i * j).natAbs < 2 ^ (a + b) := wide_lt ha hb
theorem szAdd {i j : Int} {a b c : Nat} (ha : i.natAbs < 2 ^ a) (hb : j.natAbs < 2 ^ b) (h1 : a + 1 ≤ c) (h2 : b + 1 ≤ c) : (i + j).natAbs < 2 ^ c := by
  have e1 : 2 ^ (a + 1) ≤ 2 ^ c := Nat.pow_le_pow_right (by omega) h1
  have e2 : 2 ^ (b + 1) ≤ 2 ^ c := Nat.pow_le_pow_right (by omega) h2
  rw [Nat.pow_succ] at e1 e2
  have := Int.natAbs_add_le i j
  omega
theorem szSub {i j : Int} {a b c : Nat} (ha : i.natAbs < 2 ^ a) (hb : j.natAbs < 2 ^ b) (h1 : a + 1 ≤ c) (h2 : b + 1 ≤ c) : (i - j).natAbs < 2 ^ c := by
  rw [Int.sub_eq_add_neg]
  exact szAdd ha (by rw [Int.natAbs_neg]; exact hb) h1 h2
theorem szMono {i : Int} {a b : Nat} (ha : i.natAbs < 2 ^ a) (h : a ≤ b) : i.natAbs < 2 ^ b := Nat.lt_of_lt_of_le ha (Nat.pow_le_pow_right (by omega) h)
theorem Sz.mono {q : Qt} {a b : Nat} (ha : Sz a q) (h : a ≤ b) : Sz b q := ⟨szMono ha.1 h, szMono ha.2 h⟩
/-- // by any number of a bounded size -/
def CDivX (_ j : Int) : Prop := j ≠ 0 ∧ j.natAbs < 2 ^ 8999
theorem op_fdivX {X : Cx} : OpR X (binaryOp .FloorDiv) (rI CDivX fun i j => .int (i.fdiv j)) := by
  intro pins s σ H x y v u Q I rx ry h
  obtain ⟨i, j, rfl, rfl, hc, q⟩ := h
  obtain ⟨t, rfl⟩ := rx
  obtain ⟨t', rfl⟩ := ry
  exact floordiv_int hc.1 ⟨.int _, H, I.tok _, ⟨_, rfl⟩, q⟩ (.inl (PyProof.noPylong_of_log2 (Nat.lt_of_lt_of_le (PySem.Flt.log2_lt_of (by omega) hc.2) (by omega))))
/-! ### fractions as values -/
def frt (q : Qt) : HO := .tup [.int q.1, .int q.2]
end My

namespace My
open PySem PySem.Spec PyProof.Rows L2
section
variable {P : Program} {w : World} {K : PySem.W.Frag} {mg : Str → Option Value} {base : Heap}
def spMixed : Sp := fun vs H Q _ => ∃ a b : Int, vs = [.int a, .int b] ∧ ∀ r : Int, Q (.int r) H
theorem mulW_mod {i : Int} {n : Int} (h0 : 0 < n) (h : n < 2 ^ 64) : CMulW (i % n) (i % n) := by
  have h1 := Int.emod_nonneg i (show n ≠ 0 by omega)
  have h2 := Int.emod_lt_of_pos i h0
  exact wide_mul (a := 64) (b := 64) (by omega) (by omega) (by omega) (by omega) (by omega)
abbrev sMixed : Stmt := topS 27
theorem scMixed : FnScope ["_law_number", "_law_turn", "_law_value_here"] ["_law_number", "_law_turn"] (defScope sMixed) := ⟨rfl, rfl, rfl, by decide +kernel, rfl, by decide +kernel, by decide +kernel⟩
theorem k_Mixed (T : Bt K mg) (D : Dfn K mg "_law_mixed" sMixed ["_law_number", "_law_turn"]) : Kn P w K mg base 1 "_law_mixed" ["_law_number", "_law_turn"] spMixed := by
  refine Kn.mk' D scMixed (fun vs H Q E h => ?_) (fun f cdv A outer s H vs Q E hr h => ?_)
  · obtain ⟨a, b, rfl, _⟩ := h
    rfl
  obtain ⟨a, b, rfl, q⟩ := h
  refine ⟨_, (pss_cons (ps_set (i := 2) scMixed.nd rfl (.inl rfl) (pe_op op_mod (pe_op op_add (pe_op op_add (pe_op op_mul (pe_op op_mod (pe_callTy call_int1 (by rfl) T.b_int (by decide +kernel) (pa_cons (pv 0) pa_nil)) pe_int) pe_int) (pe_op op_mul (pv 1) pe_int)) pe_int) pe_int))
      (pss_cons (ps_set (i := 2) scMixed.nd rfl (.inl rfl) (pe_op op_mod (pe_op op_add (pe_op op_add (pe_op op_add (pe_op op_mulW (pv 2) (pv 2)) (pe_op op_mul (pv 2) pe_int)) (pe_op op_mul (pv 1) pe_int)) pe_int) pe_int))
      (pss_cons (ps_set (i := 2) scMixed.nd rfl (.inl rfl) (pe_op op_mod (pe_op op_add (pe_op op_add (pe_op op_mul (pv 2) pe_int) (pe_op op_fdiv (pv 2) pe_int)) pe_int) pe_int))
      (pss_cons (ps_set (i := 2) scMixed.nd rfl (.inl rfl) (pe_op op_mod (pe_op op_add (pe_op op_mulW (pv 2) (pv 2)) (pv 1)) pe_int))
      (pss_one (ps_ret (pe_op op_fdiv (pv 2) pe_int))))))), ?_⟩
  simp only [cx_K, decide_true, decide_false, reduceCtorEq, gTp, gCons, gNil, ca_0, ca_1, ca_2, ca_3, ca_4, ca_5, ca_6, ca_7, ca_8, ca_9, ca_10, ca_11, ca_12, ca_13, ca_14, ca_15, ca_16, ca_17, ca_18, ca_19, ca_20, ca_21, ca_22, ca_23, ca_24, ca_25, ca_26, ca_27, ca_28, ca_29, ca_30, not_true_eq_false, not_false_eq_true, Int.reduceEq, Nat.reduceEqDiff, Nat.reduceLeDiff, rGcd, V.ty.injEq, eq_self, List.not_mem_nil, beq_self_eq_true, HO.lst.injEq, HO.tup.injEq, tFor_eq, iRng1, iList, iTup, nat10, tSeq, rIxA, rSetA, rIsN, rIsT, tTp, tLs, itsO_tup, itsO_lst, tyO_tup, tyO_lst, tyO_dK, tyN_non, tyN_bl, tyN_int, tyN_str, tyN_ref, tyNs_lt, isB, upd_same, upd_upd, sizeLine_eq, List.mem_cons, String.reduceBEq, String.reduceEq, Bool.or_false, Bool.or_true, Bool.and_false, Bool.false_or, Bool.and_self, Bool.false_and, Bool.not_false, Bool.not_true, List.any_cons, List.any_nil, atI_0, setI_0, atI_1, setI_1, atI_2, setI_2, atI_3, setI_3, atI_4, setI_4, atI_5, setI_5, atI_6, setI_6, tAsg, gName, tOp, tUn, tVar, tC, tCons, L2.tNil, tRet, tIfS, tTest, tCB, tCall, rI, rI0, rU, tNext, tB, tAnd, tOr, tNot, tAndV, tOrV, tNotV, tDrop, tIf, tPar, gSub, rIxL, rIxT, rEq, rNe, rSetL, tBits,
    L2.start, List.map_cons, List.map_nil, List.cons_append, List.nil_append, List.append_nil, List.length_cons, List.length_nil, List.replicate, Nat.reduceAdd, Nat.reduceSub, Nat.zero_add, List.getElem?_cons_zero, List.getElem?_cons_succ, List.set_cons_zero, List.set_cons_succ,
    Option.some.injEq, exists_eq_left', exists_eq_left, V.int.injEq, V.bl.injEq, V.ref.injEq, V.str.injEq, List.cons.injEq, reduceCtorEq, and_true, true_and, false_and, and_false, exists_false, or_false, false_or, or_true, true_or, exists_const, CMul, CDiv, CPow, and_assoc, exists_and_left, exists_and_right, Int.reducePow, Int.reduceNeg, Int.reduceLT, Int.reduceLE, Nat.reducePow, Nat.reduceLT, Int.reduceToNat, gt_iff_lt, ge_iff_le, decide_eq_true_eq, Bool.not_eq_true', decide_eq_false_iff_not, scal, ↓reduceIte, Bool.false_eq_true]
  exact ⟨mulW_mod (by omega) (by omega), mulW_mod (by omega) (by omega), q _⟩
theorem at_ints {ns : List Int} {i : Int} (h0 : 0 ≤ i) (h : i < (ns.length : Int)) : ∃ z, atI (ns.map V.int) i = some (.int z) := by
  have hk : i.toNat < ns.length := by omega
  have q : atI (ns.map V.int) ((i.toNat : Nat) : Int) = some (.int ns[i.toNat]) := atI_nat (by rw [List.getElem?_map, List.getElem?_eq_getElem hk] <;> rfl)
  rw [show ((i.toNat : Nat) : Int) = i by omega] at q
  exact ⟨_, q⟩
theorem bits_le {m : Int} (h : m.natAbs < 2 ^ 200) : Builtin.Int.intBits m ≤ 200 := by
  unfold Builtin.Int.intBits
  split
  · omega
  · have := PySem.Flt.log2_lt_of (show 0 < 200 by omega) h
    omega
def TakeA (K : PySem.W.Frag) (s : Addr) (m : Int) (H : Hp) (σ' : L2.St) (H' : Hp) : Prop := ∃ x, σ' = [some (.ref s), some (.int m), x, none, none, none, none] ∧ Kp s H H' ∧ Sto K H' s
def TakeB (K : PySem.W.Frag) (s : Addr) (m : Int) (H : Hp) (σ' : L2.St) (H' : Hp) : Prop := ∃ x n, σ' = [some (.ref s), some (.int m), x, none, some (.int n), none, none] ∧ Kp s H H' ∧ Sto K H' s
def TakeC (s : Addr) (m : Int) (x : Option V) (n : Int) (H3 : Hp) (k : Nat) (σ : L2.St) (H' : Hp) : Prop := ∃ v y, σ = [some (.ref s), some (.int m), x, none, some (.int n), some (.int v), y] ∧ H' = H3
def spTake (K : PySem.W.Frag) : Sp := fun vs H Q _ => ∃ (s : Addr) (m : Int), vs = [.ref s, .int m] ∧ Sto K H s ∧ m < 2 ^ 200 ∧ ∀ r H', 0 ≤ r → (r < m ∨ r = 0) → Kp s H H' → Sto K H' s → Q (.int r) H'
abbrev sTake : Stmt := topS 29
theorem scTake : FnScope ["_law_store_here", "_law_many", "_law_cell", "_law_digit", "_law_number", "_law_value_here", "_law_k"] ["_law_store_here", "_law_many"] (defScope sTake) := ⟨rfl, rfl, rfl, by decide +kernel, rfl, by decide +kernel, by decide +kernel⟩
theorem k_Take (T : Bt K mg) (D : Dfn K mg "_law_take" sTake ["_law_store_here", "_law_many"]) (d__law_mixed : Kn P w K mg base 1 "_law_mixed" ["_law_number", "_law_turn"] spMixed) : Kn P w K mg base 2 "_law_take" ["_law_store_here", "_law_many"] (spTake K) := by
  refine Kn.mk' D scTake (fun vs H Q E h => ?_) (fun f cdv A outer s H vs Q E hr h => ?_)
  · obtain ⟨a, m, rfl, _⟩ := h
    rfl
  obtain ⟨s, m, rfl, hS, hm, q⟩ := h
  refine ⟨_, (pss_cons (ps_if (pt_cmpR op_lt (pv 1) pe_int (nomark _)) (pss_one (ps_ret pe_int)) pss_nil)
      (pss_cons (ps_asg (pe_op op_add (pe_ix ix_any (pv 0) pe_int (fun _ _ => rfl)) pe_int) (pg_sub (pv 0) pe_int set_any))
      (C8.pss_cut (ps_if (PW.pt (pw_and (pt_cmpR op_lt (pe_ix ix_any (pv 0) pe_int (fun _ _ => rfl)) pe_int (nomark _)) (pw_and (pt_cmpR op_lt (pe_ix ix_any (pv 0) pe_int (fun _ _ => rfl)) pe_int (nomark _)) (pw_and1 (pt_cmpR op_lt (pe_ix ix_any (pv 0) pe_int (fun _ _ => rfl)) (pe_callB call_lenA (by rfl) T.b_len PySem.boot_len (pa_cons (pe_ix ix_any (pv 0) pe_int (fun _ _ => rfl)) pa_nil)) (nomark _)))))) (pss_cons (ps_set (i := 2) scTake.nd rfl (.inl rfl) (pe_callTy call_int1 (by rfl) T.b_int (by decide +kernel) (pa_cons (pe_ix ix_any (pe_ix ix_any (pv 0) pe_int (fun _ _ => rfl)) (pe_ix ix_any (pv 0) pe_int (fun _ _ => rfl)) (fun _ _ => rfl)) pa_nil)))
      (pss_cons (ps_asg (pe_op op_add (pe_ix ix_any (pv 0) pe_int (fun _ _ => rfl)) pe_int) (pg_sub (pv 0) pe_int set_any))
      (pss_one (ps_if (pt_cmpR op_lt (pe_callB call_abs (by rfl) T.b_abs (by decide +kernel) (pa_cons (pv 2) pa_nil)) (pe_op op_pow pe_int pe_int) (nomark _)) (pss_cons (ps_asg pe_int (pg_sub (pv 0) pe_int set_any))
      (pss_one (ps_asg (pv 2) (pg_sub (pv 0) pe_int set_any)))) (pss_one (ps_asg (pe_callB call_abs (by rfl) T.b_abs (by decide +kernel) (pa_cons (pv 2) pa_nil)) (pg_sub (pv 0) pe_int set_any))))))) pss_nil)
      (pss_cons (ps_if (pt_cmpR op_gt (pe_ix ix_any (pv 0) pe_int (fun _ _ => rfl)) pe_int (nomark _)) (pss_cons (ps_set (i := 3) scTake.nd rfl (.inl rfl) (pe_op op_modN (pe_callTy call_int1 (by rfl) T.b_int (by decide +kernel) (pa_cons (pe_ix ix_any (pv 0) pe_int (fun _ _ => rfl)) pa_nil)) (pv 1)))
      (pss_cons (ps_asg (pe_op op_fdivW (pe_ix ix_any (pv 0) pe_int (fun _ _ => rfl)) (pv 1)) (pg_sub (pv 0) pe_int set_any))
      (pss_one (ps_ret (pv 3))))) pss_nil)
      (pss_cons (ps_set (i := 4) scTake.nd rfl (.inl rfl) (pe_ix ix_any (pv 0) pe_int (fun _ _ => rfl)))
      (C8.pss_cut (ps_if (pt_cmpR op_gt (pe_ix ix_any (pv 0) pe_int (fun _ _ => rfl)) pe_int (nomark _)) (pss_cons (ps_asg (pe_op op_sub (pe_ix ix_any (pv 0) pe_int (fun _ _ => rfl)) pe_int) (pg_sub (pv 0) pe_int set_any))
      (pss_one (ps_set (i := 4) scTake.nd rfl (.inl rfl) (pe_ix ix_any (pv 0) pe_int (fun _ _ => rfl))))) pss_nil)
      (pss_cons (ps_set (i := 5) scTake.nd rfl (.inl rfl) pe_int)
      (pss_cons (ps_for PassesOwn.never rfl (pi_range1 (by rfl) T.b_range (pa_cons (pe_op op_add pe_int (pe_op op_fdiv (pe_bits (pv 1)) pe_int)) pa_nil)) (pg_name (i := 6) scTake.nd rfl (.inl rfl)) (pss_one (ps_set (i := 5) scTake.nd rfl (.inl rfl) (pe_op op_add (pe_op op_mul (pv 5) pe_int) (pe_kn d__law_mixed hr (by rfl) (pa_cons (pv 4) (pa_cons (pe_op op_add (pe_op op_mul (pe_ix ix_any (pv 0) pe_int (fun _ _ => rfl)) pe_int) (pv 6)) pa_nil)))))))
      (pss_one (ps_ret (pe_op op_modN (pv 5) (pv 1)))))))))))), ?_⟩
  obtain ⟨sc, ns, i, b, c, d, e, f, hs, hsc, hne, hi, ks, ksc⟩ := hS
  have o1 := (ob_none ks).trans hs
  simp only [o1, hs, cx_K, decide_true, decide_false, reduceCtorEq, gTp, gCons, gNil, ca_0, ca_1, ca_2, ca_3, ca_4, ca_5, ca_6, ca_7, ca_8, ca_9, ca_10, ca_11, ca_12, ca_13, ca_14, ca_15, ca_16, ca_17, ca_18, ca_19, ca_20, ca_21, ca_22, ca_23, ca_24, ca_25, ca_26, ca_27, ca_28, ca_29, ca_30, not_true_eq_false, not_false_eq_true, Int.reduceEq, Nat.reduceEqDiff, Nat.reduceLeDiff, rGcd, V.ty.injEq, eq_self, List.not_mem_nil, beq_self_eq_true, HO.lst.injEq, HO.tup.injEq, tFor_eq, iRng1, iList, iTup, nat10, tSeq, rIxA, rSetA, rIsN, rIsT, tTp, tLs, itsO_tup, itsO_lst, tyO_tup, tyO_lst, tyO_dK, tyN_non, tyN_bl, tyN_int, tyN_str, tyN_ref, tyNs_lt, isB, upd_same, upd_upd, sizeLine_eq, List.mem_cons, String.reduceBEq, String.reduceEq, Bool.or_false, Bool.or_true, Bool.and_false, Bool.false_or, Bool.and_self, Bool.false_and, Bool.not_false, Bool.not_true, List.any_cons, List.any_nil, atI_0, setI_0, atI_1, setI_1, atI_2, setI_2, atI_3, setI_3, atI_4, setI_4, atI_5, setI_5, atI_6, setI_6, tAsg, gName, tOp, tUn, tVar, tC, tCons, L2.tNil, tRet, tIfS, tTest, tCB, tCall, rI, rI0, rU, tNext, tB, tAnd, tOr, tNot, tAndV, tOrV, tNotV, tDrop, tIf, tPar, gSub, rIxL, rIxT, rEq, rNe, rSetL, tBits,
    L2.start, List.map_cons, List.map_nil, List.cons_append, List.nil_append, List.append_nil, List.length_cons, List.length_nil, List.replicate, Nat.reduceAdd, Nat.reduceSub, Nat.zero_add, List.getElem?_cons_zero, List.getElem?_cons_succ, List.set_cons_zero, List.set_cons_succ,
    Option.some.injEq, exists_eq_left', exists_eq_left, V.int.injEq, V.bl.injEq, V.ref.injEq, V.str.injEq, List.cons.injEq, reduceCtorEq, and_true, true_and, false_and, and_false, exists_false, or_false, false_or, or_true, true_or, exists_const, CMul, CDiv, CPow, and_assoc, exists_and_left, exists_and_right, Int.reducePow, Int.reduceNeg, Int.reduceLT, Int.reduceLE, Nat.reducePow, Nat.reduceLT, Int.reduceToNat, gt_iff_lt, ge_iff_le, decide_eq_true_eq, Bool.not_eq_true', decide_eq_false_iff_not, scal, ↓reduceIte, Bool.false_eq_true]
  refine ite2 (fun h2 => ?_) (fun h2 => ?_)
  · exact q 0 H (Int.le_refl 0) (.inr rfl) (Kp.refl _ _) ⟨sc, ns, i, b, c, d, e, f, hs, hsc, hne, hi, ks, ksc⟩
  have S1 := Sr.put (i' := i) (b' := b) (c' := c + 1) (d' := d) (e' := e) (f' := f) (⟨hs, hsc, hne, hi, ks, ksc⟩ : Sr K H s sc ns i b c d e f) hi
  have kp1 : Kp s H (upd H s (.lst [.ref sc, .int i, .int b, .int (c + 1), .int d, .int e, .int f])) := Kp.upd
  generalize upd H s (.lst [.ref sc, .int i, .int b, .int (c + 1), .int d, .int e, .int f]) = H1 at S1 kp1 ⊢
  refine ⟨TakeA K s m H, ?_, ?_⟩
  · obtain ⟨hs, hsc, hne, hi, ks, ksc⟩ := id S1
    have o1 := (ob_none ks).trans hs
    have o2 := (ob_none ksc).trans hsc
    have no : TakeA K s m H [some (.ref s), some (.int m), none, none, none, none, none] H1 := ⟨none, rfl, kp1, _, _, _, _, _, _, _, _, S1⟩
    simp only [o1, o2, hs, List.length_map, cx_K, decide_true, decide_false, reduceCtorEq, gTp, gCons, gNil, ca_0, ca_1, ca_2, ca_3, ca_4, ca_5, ca_6, ca_7, ca_8, ca_9, ca_10, ca_11, ca_12, ca_13, ca_14, ca_15, ca_16, ca_17, ca_18, ca_19, ca_20, ca_21, ca_22, ca_23, ca_24, ca_25, ca_26, ca_27, ca_28, ca_29, ca_30, not_true_eq_false, not_false_eq_true, Int.reduceEq, Nat.reduceEqDiff, Nat.reduceLeDiff, rGcd, V.ty.injEq, eq_self, List.not_mem_nil, beq_self_eq_true, HO.lst.injEq, HO.tup.injEq, tFor_eq, iRng1, iList, iTup, nat10, tSeq, rIxA, rSetA, rIsN, rIsT, tTp, tLs, itsO_tup, itsO_lst, tyO_tup, tyO_lst, tyO_dK, tyN_non, tyN_bl, tyN_int, tyN_str, tyN_ref, tyNs_lt, isB, upd_same, upd_upd, sizeLine_eq, List.mem_cons, String.reduceBEq, String.reduceEq, Bool.or_false, Bool.or_true, Bool.and_false, Bool.false_or, Bool.and_self, Bool.false_and, Bool.not_false, Bool.not_true, List.any_cons, List.any_nil, atI_0, setI_0, atI_1, setI_1, atI_2, setI_2, atI_3, setI_3, atI_4, setI_4, atI_5, setI_5, atI_6, setI_6, tAsg, gName, tOp, tUn, tVar, tC, tCons, L2.tNil, tRet, tIfS, tTest, tCB, tCall, rI, rI0, rU, tNext, tB, tAnd, tOr, tNot, tAndV, tOrV, tNotV, tDrop, tIf, tPar, gSub, rIxL, rIxT, rEq, rNe, rSetL, tBits,
    L2.start, List.map_cons, List.map_nil, List.cons_append, List.nil_append, List.append_nil, List.length_cons, List.length_nil, List.replicate, Nat.reduceAdd, Nat.reduceSub, Nat.zero_add, List.getElem?_cons_zero, List.getElem?_cons_succ, List.set_cons_zero, List.set_cons_succ,
    Option.some.injEq, exists_eq_left', exists_eq_left, V.int.injEq, V.bl.injEq, V.ref.injEq, V.str.injEq, List.cons.injEq, reduceCtorEq, and_true, true_and, false_and, and_false, exists_false, or_false, false_or, or_true, true_or, exists_const, CMul, CDiv, CPow, and_assoc, exists_and_left, exists_and_right, Int.reducePow, Int.reduceNeg, Int.reduceLT, Int.reduceLE, Nat.reducePow, Nat.reduceLT, Int.reduceToNat, gt_iff_lt, ge_iff_le, decide_eq_true_eq, Bool.not_eq_true', decide_eq_false_iff_not, scal, ↓reduceIte, Bool.false_eq_true]
    refine ite2 (fun _ => ?_) (fun _ => no)
    refine ite2 (fun _ => ?_) (fun _ => no)
    refine ite2 (fun hlt => ?_) (fun _ => no)
    obtain ⟨z, hz⟩ := at_ints hi hlt
    simp only [hz, cx_K, decide_true, decide_false, reduceCtorEq, gTp, gCons, gNil, ca_0, ca_1, ca_2, ca_3, ca_4, ca_5, ca_6, ca_7, ca_8, ca_9, ca_10, ca_11, ca_12, ca_13, ca_14, ca_15, ca_16, ca_17, ca_18, ca_19, ca_20, ca_21, ca_22, ca_23, ca_24, ca_25, ca_26, ca_27, ca_28, ca_29, ca_30, not_true_eq_false, not_false_eq_true, Int.reduceEq, Nat.reduceEqDiff, Nat.reduceLeDiff, rGcd, V.ty.injEq, eq_self, List.not_mem_nil, beq_self_eq_true, HO.lst.injEq, HO.tup.injEq, tFor_eq, iRng1, iList, iTup, nat10, tSeq, rIxA, rSetA, rIsN, rIsT, tTp, tLs, itsO_tup, itsO_lst, tyO_tup, tyO_lst, tyO_dK, tyN_non, tyN_bl, tyN_int, tyN_str, tyN_ref, tyNs_lt, isB, upd_same, upd_upd, sizeLine_eq, List.mem_cons, String.reduceBEq, String.reduceEq, Bool.or_false, Bool.or_true, Bool.and_false, Bool.false_or, Bool.and_self, Bool.false_and, Bool.not_false, Bool.not_true, List.any_cons, List.any_nil, atI_0, setI_0, atI_1, setI_1, atI_2, setI_2, atI_3, setI_3, atI_4, setI_4, atI_5, setI_5, atI_6, setI_6, tAsg, gName, tOp, tUn, tVar, tC, tCons, L2.tNil, tRet, tIfS, tTest, tCB, tCall, rI, rI0, rU, tNext, tB, tAnd, tOr, tNot, tAndV, tOrV, tNotV, tDrop, tIf, tPar, gSub, rIxL, rIxT, rEq, rNe, rSetL, tBits,
    L2.start, List.map_cons, List.map_nil, List.cons_append, List.nil_append, List.append_nil, List.length_cons, List.length_nil, List.replicate, Nat.reduceAdd, Nat.reduceSub, Nat.zero_add, List.getElem?_cons_zero, List.getElem?_cons_succ, List.set_cons_zero, List.set_cons_succ,
    Option.some.injEq, exists_eq_left', exists_eq_left, V.int.injEq, V.bl.injEq, V.ref.injEq, V.str.injEq, List.cons.injEq, reduceCtorEq, and_true, true_and, false_and, and_false, exists_false, or_false, false_or, or_true, true_or, exists_const, CMul, CDiv, CPow, and_assoc, exists_and_left, exists_and_right, Int.reducePow, Int.reduceNeg, Int.reduceLT, Int.reduceLE, Nat.reducePow, Nat.reduceLT, Int.reduceToNat, gt_iff_lt, ge_iff_le, decide_eq_true_eq, Bool.not_eq_true', decide_eq_false_iff_not, scal, ↓reduceIte, Bool.false_eq_true]
    refine ite2 (fun _ => ?_) (fun _ => ?_)
    · have S2 := S1.put (i' := i + 1) (b' := b) (c' := c + 1) (d' := d) (e' := 2) (f' := z) (by omega)
      exact ⟨_, rfl, kp1.trans Kp.upd, _, _, _, _, _, _, _, _, S2⟩
    · have S2 := S1.put (i' := i + 1) (b' := if z < 0 then -z else z) (c' := c + 1) (d' := d) (e' := e) (f' := f) (by omega)
      exact ⟨_, rfl, kp1.trans Kp.upd, _, _, _, _, _, _, _, _, S2⟩
  rintro σ' H2 ⟨x, rfl, kp2, sc, ns, i, b, c, d, e, f, S2⟩
  obtain ⟨hs, hsc, hne, hi, ks, ksc⟩ := id S2
  have o1 := (ob_none ks).trans hs
  simp only [o1, hs, cx_K, decide_true, decide_false, reduceCtorEq, gTp, gCons, gNil, ca_0, ca_1, ca_2, ca_3, ca_4, ca_5, ca_6, ca_7, ca_8, ca_9, ca_10, ca_11, ca_12, ca_13, ca_14, ca_15, ca_16, ca_17, ca_18, ca_19, ca_20, ca_21, ca_22, ca_23, ca_24, ca_25, ca_26, ca_27, ca_28, ca_29, ca_30, not_true_eq_false, not_false_eq_true, Int.reduceEq, Nat.reduceEqDiff, Nat.reduceLeDiff, rGcd, V.ty.injEq, eq_self, List.not_mem_nil, beq_self_eq_true, HO.lst.injEq, HO.tup.injEq, tFor_eq, iRng1, iList, iTup, nat10, tSeq, rIxA, rSetA, rIsN, rIsT, tTp, tLs, itsO_tup, itsO_lst, tyO_tup, tyO_lst, tyO_dK, tyN_non, tyN_bl, tyN_int, tyN_str, tyN_ref, tyNs_lt, isB, upd_same, upd_upd, sizeLine_eq, List.mem_cons, String.reduceBEq, String.reduceEq, Bool.or_false, Bool.or_true, Bool.and_false, Bool.false_or, Bool.and_self, Bool.false_and, Bool.not_false, Bool.not_true, List.any_cons, List.any_nil, atI_0, setI_0, atI_1, setI_1, atI_2, setI_2, atI_3, setI_3, atI_4, setI_4, atI_5, setI_5, atI_6, setI_6, tAsg, gName, tOp, tUn, tVar, tC, tCons, L2.tNil, tRet, tIfS, tTest, tCB, tCall, rI, rI0, rU, tNext, tB, tAnd, tOr, tNot, tAndV, tOrV, tNotV, tDrop, tIf, tPar, gSub, rIxL, rIxT, rEq, rNe, rSetL, tBits,
    L2.start, List.map_cons, List.map_nil, List.cons_append, List.nil_append, List.append_nil, List.length_cons, List.length_nil, List.replicate, Nat.reduceAdd, Nat.reduceSub, Nat.zero_add, List.getElem?_cons_zero, List.getElem?_cons_succ, List.set_cons_zero, List.set_cons_succ,
    Option.some.injEq, exists_eq_left', exists_eq_left, V.int.injEq, V.bl.injEq, V.ref.injEq, V.str.injEq, List.cons.injEq, reduceCtorEq, and_true, true_and, false_and, and_false, exists_false, or_false, false_or, or_true, true_or, exists_const, CMul, CDiv, CPow, and_assoc, exists_and_left, exists_and_right, Int.reducePow, Int.reduceNeg, Int.reduceLT, Int.reduceLE, Nat.reducePow, Nat.reduceLT, Int.reduceToNat, gt_iff_lt, ge_iff_le, decide_eq_true_eq, Bool.not_eq_true', decide_eq_false_iff_not, scal, ↓reduceIte, Bool.false_eq_true]
  have hm0 : m ≠ 0 := by omega
  refine ite2 (fun hb => ?_) (fun hb => ?_)
  · have S3 := S2.put (i' := i) (b' := b / m) (c' := c) (d' := d) (e' := e) (f' := f) hi
    refine ⟨hm0, wide_div (b := 200) (by omega) (by omega) (by omega) (by omega), q _ _ ?_ (.inl ?_) (kp2.trans Kp.upd) ⟨_, _, _, _, _, _, _, _, S3⟩⟩
    · rw [Int.fmod_eq_emod_of_nonneg b (by omega)]
      exact Int.emod_nonneg _ hm0
    · rw [Int.fmod_eq_emod_of_nonneg b (by omega)]
      exact Int.emod_lt_of_pos _ (by omega)
  refine ⟨TakeB K s m H, ?_, ?_⟩
  · simp only [o1, hs, cx_K, decide_true, decide_false, reduceCtorEq, gTp, gCons, gNil, ca_0, ca_1, ca_2, ca_3, ca_4, ca_5, ca_6, ca_7, ca_8, ca_9, ca_10, ca_11, ca_12, ca_13, ca_14, ca_15, ca_16, ca_17, ca_18, ca_19, ca_20, ca_21, ca_22, ca_23, ca_24, ca_25, ca_26, ca_27, ca_28, ca_29, ca_30, not_true_eq_false, not_false_eq_true, Int.reduceEq, Nat.reduceEqDiff, Nat.reduceLeDiff, rGcd, V.ty.injEq, eq_self, List.not_mem_nil, beq_self_eq_true, HO.lst.injEq, HO.tup.injEq, tFor_eq, iRng1, iList, iTup, nat10, tSeq, rIxA, rSetA, rIsN, rIsT, tTp, tLs, itsO_tup, itsO_lst, tyO_tup, tyO_lst, tyO_dK, tyN_non, tyN_bl, tyN_int, tyN_str, tyN_ref, tyNs_lt, isB, upd_same, upd_upd, sizeLine_eq, List.mem_cons, String.reduceBEq, String.reduceEq, Bool.or_false, Bool.or_true, Bool.and_false, Bool.false_or, Bool.and_self, Bool.false_and, Bool.not_false, Bool.not_true, List.any_cons, List.any_nil, atI_0, setI_0, atI_1, setI_1, atI_2, setI_2, atI_3, setI_3, atI_4, setI_4, atI_5, setI_5, atI_6, setI_6, tAsg, gName, tOp, tUn, tVar, tC, tCons, L2.tNil, tRet, tIfS, tTest, tCB, tCall, rI, rI0, rU, tNext, tB, tAnd, tOr, tNot, tAndV, tOrV, tNotV, tDrop, tIf, tPar, gSub, rIxL, rIxT, rEq, rNe, rSetL, tBits,
    L2.start, List.map_cons, List.map_nil, List.cons_append, List.nil_append, List.append_nil, List.length_cons, List.length_nil, List.replicate, Nat.reduceAdd, Nat.reduceSub, Nat.zero_add, List.getElem?_cons_zero, List.getElem?_cons_succ, List.set_cons_zero, List.set_cons_succ,
    Option.some.injEq, exists_eq_left', exists_eq_left, V.int.injEq, V.bl.injEq, V.ref.injEq, V.str.injEq, List.cons.injEq, reduceCtorEq, and_true, true_and, false_and, and_false, exists_false, or_false, false_or, or_true, true_or, exists_const, CMul, CDiv, CPow, and_assoc, exists_and_left, exists_and_right, Int.reducePow, Int.reduceNeg, Int.reduceLT, Int.reduceLE, Nat.reducePow, Nat.reduceLT, Int.reduceToNat, gt_iff_lt, ge_iff_le, decide_eq_true_eq, Bool.not_eq_true', decide_eq_false_iff_not, scal, ↓reduceIte, Bool.false_eq_true]
    refine ite2 (fun he => ?_) (fun he => ?_)
    · have S3 := S2.put (i' := i) (b' := b) (c' := c) (d' := d) (e' := e - 1) (f' := f) hi
      have o3 := (ob_none ks).trans S3.1
      simp only [o3, cx_K, decide_true, decide_false, reduceCtorEq, gTp, gCons, gNil, ca_0, ca_1, ca_2, ca_3, ca_4, ca_5, ca_6, ca_7, ca_8, ca_9, ca_10, ca_11, ca_12, ca_13, ca_14, ca_15, ca_16, ca_17, ca_18, ca_19, ca_20, ca_21, ca_22, ca_23, ca_24, ca_25, ca_26, ca_27, ca_28, ca_29, ca_30, not_true_eq_false, not_false_eq_true, Int.reduceEq, Nat.reduceEqDiff, Nat.reduceLeDiff, rGcd, V.ty.injEq, eq_self, List.not_mem_nil, beq_self_eq_true, HO.lst.injEq, HO.tup.injEq, tFor_eq, iRng1, iList, iTup, nat10, tSeq, rIxA, rSetA, rIsN, rIsT, tTp, tLs, itsO_tup, itsO_lst, tyO_tup, tyO_lst, tyO_dK, tyN_non, tyN_bl, tyN_int, tyN_str, tyN_ref, tyNs_lt, isB, upd_same, upd_upd, sizeLine_eq, List.mem_cons, String.reduceBEq, String.reduceEq, Bool.or_false, Bool.or_true, Bool.and_false, Bool.false_or, Bool.and_self, Bool.false_and, Bool.not_false, Bool.not_true, List.any_cons, List.any_nil, atI_0, setI_0, atI_1, setI_1, atI_2, setI_2, atI_3, setI_3, atI_4, setI_4, atI_5, setI_5, atI_6, setI_6, tAsg, gName, tOp, tUn, tVar, tC, tCons, L2.tNil, tRet, tIfS, tTest, tCB, tCall, rI, rI0, rU, tNext, tB, tAnd, tOr, tNot, tAndV, tOrV, tNotV, tDrop, tIf, tPar, gSub, rIxL, rIxT, rEq, rNe, rSetL, tBits,
    L2.start, List.map_cons, List.map_nil, List.cons_append, List.nil_append, List.append_nil, List.length_cons, List.length_nil, List.replicate, Nat.reduceAdd, Nat.reduceSub, Nat.zero_add, List.getElem?_cons_zero, List.getElem?_cons_succ, List.set_cons_zero, List.set_cons_succ,
    Option.some.injEq, exists_eq_left', exists_eq_left, V.int.injEq, V.bl.injEq, V.ref.injEq, V.str.injEq, List.cons.injEq, reduceCtorEq, and_true, true_and, false_and, and_false, exists_false, or_false, false_or, or_true, true_or, exists_const, CMul, CDiv, CPow, and_assoc, exists_and_left, exists_and_right, Int.reducePow, Int.reduceNeg, Int.reduceLT, Int.reduceLE, Nat.reducePow, Nat.reduceLT, Int.reduceToNat, gt_iff_lt, ge_iff_le, decide_eq_true_eq, Bool.not_eq_true', decide_eq_false_iff_not, scal, ↓reduceIte, Bool.false_eq_true]
      exact ⟨_, _, rfl, kp2.trans Kp.upd, _, _, _, _, _, _, _, _, S3⟩
    · exact ⟨_, _, rfl, kp2, _, _, _, _, _, _, _, _, S2⟩
  rintro σ' H3 ⟨x, n, rfl, kp3, sc, ns, i, b, c, d, e, f, S3⟩
  obtain ⟨hs, hsc, hne, hi, ks, ksc⟩ := id S3
  have o1 := (ob_none ks).trans hs
  simp only [o1, hs, cx_K, decide_true, decide_false, reduceCtorEq, gTp, gCons, gNil, ca_0, ca_1, ca_2, ca_3, ca_4, ca_5, ca_6, ca_7, ca_8, ca_9, ca_10, ca_11, ca_12, ca_13, ca_14, ca_15, ca_16, ca_17, ca_18, ca_19, ca_20, ca_21, ca_22, ca_23, ca_24, ca_25, ca_26, ca_27, ca_28, ca_29, ca_30, not_true_eq_false, not_false_eq_true, Int.reduceEq, Nat.reduceEqDiff, Nat.reduceLeDiff, rGcd, V.ty.injEq, eq_self, List.not_mem_nil, beq_self_eq_true, HO.lst.injEq, HO.tup.injEq, tFor_eq, iRng1, iList, iTup, nat10, tSeq, rIxA, rSetA, rIsN, rIsT, tTp, tLs, itsO_tup, itsO_lst, tyO_tup, tyO_lst, tyO_dK, tyN_non, tyN_bl, tyN_int, tyN_str, tyN_ref, tyNs_lt, isB, upd_same, upd_upd, sizeLine_eq, List.mem_cons, String.reduceBEq, String.reduceEq, Bool.or_false, Bool.or_true, Bool.and_false, Bool.false_or, Bool.and_self, Bool.false_and, Bool.not_false, Bool.not_true, List.any_cons, List.any_nil, atI_0, setI_0, atI_1, setI_1, atI_2, setI_2, atI_3, setI_3, atI_4, setI_4, atI_5, setI_5, atI_6, setI_6, tAsg, gName, tOp, tUn, tVar, tC, tCons, L2.tNil, tRet, tIfS, tTest, tCB, tCall, rI, rI0, rU, tNext, tB, tAnd, tOr, tNot, tAndV, tOrV, tNotV, tDrop, tIf, tPar, gSub, rIxL, rIxT, rEq, rNe, rSetL, tBits,
    L2.start, List.map_cons, List.map_nil, List.cons_append, List.nil_append, List.append_nil, List.length_cons, List.length_nil, List.replicate, Nat.reduceAdd, Nat.reduceSub, Nat.zero_add, List.getElem?_cons_zero, List.getElem?_cons_succ, List.set_cons_zero, List.set_cons_succ,
    Option.some.injEq, exists_eq_left', exists_eq_left, V.int.injEq, V.bl.injEq, V.ref.injEq, V.str.injEq, List.cons.injEq, reduceCtorEq, and_true, true_and, false_and, and_false, exists_false, or_false, false_or, or_true, true_or, exists_const, CMul, CDiv, CPow, and_assoc, exists_and_left, exists_and_right, Int.reducePow, Int.reduceNeg, Int.reduceLT, Int.reduceLE, Nat.reducePow, Nat.reduceLT, Int.reduceToNat, gt_iff_lt, ge_iff_le, decide_eq_true_eq, Bool.not_eq_true', decide_eq_false_iff_not, scal, ↓reduceIte, Bool.false_eq_true]
  have hbits : Builtin.Int.intBits m ≤ 200 := bits_le (by omega)
  refine ⟨by omega, by omega, forI_range (TakeC s m x n H3) ⟨0, none, rfl, rfl⟩ ?_ ?_⟩
  · rintro k σ H' hk ⟨v, y, rfl, rfl⟩
    simp only [o1, hs, cx_K, decide_true, decide_false, reduceCtorEq, gTp, gCons, gNil, ca_0, ca_1, ca_2, ca_3, ca_4, ca_5, ca_6, ca_7, ca_8, ca_9, ca_10, ca_11, ca_12, ca_13, ca_14, ca_15, ca_16, ca_17, ca_18, ca_19, ca_20, ca_21, ca_22, ca_23, ca_24, ca_25, ca_26, ca_27, ca_28, ca_29, ca_30, not_true_eq_false, not_false_eq_true, Int.reduceEq, Nat.reduceEqDiff, Nat.reduceLeDiff, rGcd, V.ty.injEq, eq_self, List.not_mem_nil, beq_self_eq_true, HO.lst.injEq, HO.tup.injEq, tFor_eq, iRng1, iList, iTup, nat10, tSeq, rIxA, rSetA, rIsN, rIsT, tTp, tLs, itsO_tup, itsO_lst, tyO_tup, tyO_lst, tyO_dK, tyN_non, tyN_bl, tyN_int, tyN_str, tyN_ref, tyNs_lt, isB, upd_same, upd_upd, sizeLine_eq, List.mem_cons, String.reduceBEq, String.reduceEq, Bool.or_false, Bool.or_true, Bool.and_false, Bool.false_or, Bool.and_self, Bool.false_and, Bool.not_false, Bool.not_true, List.any_cons, List.any_nil, atI_0, setI_0, atI_1, setI_1, atI_2, setI_2, atI_3, setI_3, atI_4, setI_4, atI_5, setI_5, atI_6, setI_6, tAsg, gName, tOp, tUn, tVar, tC, tCons, L2.tNil, tRet, tIfS, tTest, tCB, tCall, rI, rI0, rU, tNext, tB, tAnd, tOr, tNot, tAndV, tOrV, tNotV, tDrop, tIf, tPar, gSub, rIxL, rIxT, rEq, rNe, rSetL, tBits,
    L2.start, List.map_cons, List.map_nil, List.cons_append, List.nil_append, List.append_nil, List.length_cons, List.length_nil, List.replicate, Nat.reduceAdd, Nat.reduceSub, Nat.zero_add, List.getElem?_cons_zero, List.getElem?_cons_succ, List.set_cons_zero, List.set_cons_succ,
    Option.some.injEq, exists_eq_left', exists_eq_left, V.int.injEq, V.bl.injEq, V.ref.injEq, V.str.injEq, List.cons.injEq, reduceCtorEq, and_true, true_and, false_and, and_false, exists_false, or_false, false_or, or_true, true_or, exists_const, CMul, CDiv, CPow, and_assoc, exists_and_left, exists_and_right, Int.reducePow, Int.reduceNeg, Int.reduceLT, Int.reduceLE, Nat.reducePow, Nat.reduceLT, Int.reduceToNat, gt_iff_lt, ge_iff_le, decide_eq_true_eq, Bool.not_eq_true', decide_eq_false_iff_not, scal, ↓reduceIte, Bool.false_eq_true]
    refine ⟨_, _, rfl, fun r => ?_⟩
    simp only [cx_K, decide_true, decide_false, reduceCtorEq, gTp, gCons, gNil, ca_0, ca_1, ca_2, ca_3, ca_4, ca_5, ca_6, ca_7, ca_8, ca_9, ca_10, ca_11, ca_12, ca_13, ca_14, ca_15, ca_16, ca_17, ca_18, ca_19, ca_20, ca_21, ca_22, ca_23, ca_24, ca_25, ca_26, ca_27, ca_28, ca_29, ca_30, not_true_eq_false, not_false_eq_true, Int.reduceEq, Nat.reduceEqDiff, Nat.reduceLeDiff, rGcd, V.ty.injEq, eq_self, List.not_mem_nil, beq_self_eq_true, HO.lst.injEq, HO.tup.injEq, tFor_eq, iRng1, iList, iTup, nat10, tSeq, rIxA, rSetA, rIsN, rIsT, tTp, tLs, itsO_tup, itsO_lst, tyO_tup, tyO_lst, tyO_dK, tyN_non, tyN_bl, tyN_int, tyN_str, tyN_ref, tyNs_lt, isB, upd_same, upd_upd, sizeLine_eq, List.mem_cons, String.reduceBEq, String.reduceEq, Bool.or_false, Bool.or_true, Bool.and_false, Bool.false_or, Bool.and_self, Bool.false_and, Bool.not_false, Bool.not_true, List.any_cons, List.any_nil, atI_0, setI_0, atI_1, setI_1, atI_2, setI_2, atI_3, setI_3, atI_4, setI_4, atI_5, setI_5, atI_6, setI_6, tAsg, gName, tOp, tUn, tVar, tC, tCons, L2.tNil, tRet, tIfS, tTest, tCB, tCall, rI, rI0, rU, tNext, tB, tAnd, tOr, tNot, tAndV, tOrV, tNotV, tDrop, tIf, tPar, gSub, rIxL, rIxT, rEq, rNe, rSetL, tBits,
    L2.start, List.map_cons, List.map_nil, List.cons_append, List.nil_append, List.append_nil, List.length_cons, List.length_nil, List.replicate, Nat.reduceAdd, Nat.reduceSub, Nat.zero_add, List.getElem?_cons_zero, List.getElem?_cons_succ, List.set_cons_zero, List.set_cons_succ,
    Option.some.injEq, exists_eq_left', exists_eq_left, V.int.injEq, V.bl.injEq, V.ref.injEq, V.str.injEq, List.cons.injEq, reduceCtorEq, and_true, true_and, false_and, and_false, exists_false, or_false, false_or, or_true, true_or, exists_const, CMul, CDiv, CPow, and_assoc, exists_and_left, exists_and_right, Int.reducePow, Int.reduceNeg, Int.reduceLT, Int.reduceLE, Nat.reducePow, Nat.reduceLT, Int.reduceToNat, gt_iff_lt, ge_iff_le, decide_eq_true_eq, Bool.not_eq_true', decide_eq_false_iff_not, scal, ↓reduceIte, Bool.false_eq_true]
    exact ⟨_, _, rfl, rfl⟩
  · rintro σ H' ⟨v, y, rfl, rfl⟩
    simp only [cx_K, decide_true, decide_false, reduceCtorEq, gTp, gCons, gNil, ca_0, ca_1, ca_2, ca_3, ca_4, ca_5, ca_6, ca_7, ca_8, ca_9, ca_10, ca_11, ca_12, ca_13, ca_14, ca_15, ca_16, ca_17, ca_18, ca_19, ca_20, ca_21, ca_22, ca_23, ca_24, ca_25, ca_26, ca_27, ca_28, ca_29, ca_30, not_true_eq_false, not_false_eq_true, Int.reduceEq, Nat.reduceEqDiff, Nat.reduceLeDiff, rGcd, V.ty.injEq, eq_self, List.not_mem_nil, beq_self_eq_true, HO.lst.injEq, HO.tup.injEq, tFor_eq, iRng1, iList, iTup, nat10, tSeq, rIxA, rSetA, rIsN, rIsT, tTp, tLs, itsO_tup, itsO_lst, tyO_tup, tyO_lst, tyO_dK, tyN_non, tyN_bl, tyN_int, tyN_str, tyN_ref, tyNs_lt, isB, upd_same, upd_upd, sizeLine_eq, List.mem_cons, String.reduceBEq, String.reduceEq, Bool.or_false, Bool.or_true, Bool.and_false, Bool.false_or, Bool.and_self, Bool.false_and, Bool.not_false, Bool.not_true, List.any_cons, List.any_nil, atI_0, setI_0, atI_1, setI_1, atI_2, setI_2, atI_3, setI_3, atI_4, setI_4, atI_5, setI_5, atI_6, setI_6, tAsg, gName, tOp, tUn, tVar, tC, tCons, L2.tNil, tRet, tIfS, tTest, tCB, tCall, rI, rI0, rU, tNext, tB, tAnd, tOr, tNot, tAndV, tOrV, tNotV, tDrop, tIf, tPar, gSub, rIxL, rIxT, rEq, rNe, rSetL, tBits,
    L2.start, List.map_cons, List.map_nil, List.cons_append, List.nil_append, List.append_nil, List.length_cons, List.length_nil, List.replicate, Nat.reduceAdd, Nat.reduceSub, Nat.zero_add, List.getElem?_cons_zero, List.getElem?_cons_succ, List.set_cons_zero, List.set_cons_succ,
    Option.some.injEq, exists_eq_left', exists_eq_left, V.int.injEq, V.bl.injEq, V.ref.injEq, V.str.injEq, List.cons.injEq, reduceCtorEq, and_true, true_and, false_and, and_false, exists_false, or_false, false_or, or_true, true_or, exists_const, CMul, CDiv, CPow, and_assoc, exists_and_left, exists_and_right, Int.reducePow, Int.reduceNeg, Int.reduceLT, Int.reduceLE, Nat.reducePow, Nat.reduceLT, Int.reduceToNat, gt_iff_lt, ge_iff_le, decide_eq_true_eq, Bool.not_eq_true', decide_eq_false_iff_not, scal, ↓reduceIte, Bool.false_eq_true]
    refine ⟨hm0, q _ _ ?_ (.inl ?_) kp3 ⟨_, _, _, _, _, _, _, _, S3⟩⟩
    · rw [Int.fmod_eq_emod_of_nonneg v (by omega)]
      exact Int.emod_nonneg _ hm0
    · rw [Int.fmod_eq_emod_of_nonneg v (by omega)]
      exact Int.emod_lt_of_pos _ (by omega)
end
end My

namespace My
open PySem PySem.Spec PyProof.Rows L2
section
variable {P : Program} {w : World} {K : PySem.W.Frag} {mg : Str → Option Value} {base : Heap}
theorem abs_if (n : Int) : (if n < 0 then -n else n) = (n.natAbs : Int) := by split <;> omega
def spGcd : Sp := fun vs H Q _ => ∃ a b : Int, vs = [.int a, .int b] ∧ Q (.int ((Int.gcd a b : Nat) : Int)) H
def GcdW (a b : Int) (H : Hp) (σ : L2.St) (H' : Hp) : Prop := ∃ l r : Int, σ = [some (.int l), some (.int r)] ∧ H' = H ∧ 0 ≤ l ∧ 0 ≤ r ∧ Int.gcd l r = Int.gcd a b
def GcdM (σ : L2.St) (_ : Hp) : Nat := match σ with
  | [_, some (.int r)] => r.toNat
  | _ => 0
abbrev sGcd : Stmt := topS 31
theorem scGcd : FnScope ["_law_left", "_law_right"] ["_law_left", "_law_right"] (defScope sGcd) := ⟨rfl, rfl, rfl, by decide +kernel, rfl, by decide +kernel, by decide +kernel⟩
theorem k_Gcd (T : Bt K mg) (D : Dfn K mg "_law_gcd" sGcd ["_law_left", "_law_right"]) : Kn P w K mg base 1 "_law_gcd" ["_law_left", "_law_right"] spGcd := by
  refine Kn.mk' D scGcd (fun vs H Q E h => ?_) (fun f cdv A outer s H vs Q E hr h => ?_)
  · obtain ⟨a, b, rfl, _⟩ := h
    rfl
  obtain ⟨a, b, rfl, q⟩ := h
  refine ⟨_, (pss_cons (ps_set (i := 0) scGcd.nd rfl (.inl rfl) (pe_callB call_abs (by rfl) T.b_abs (by decide +kernel) (pa_cons (pv 0) pa_nil)))
      (pss_cons (ps_set (i := 1) scGcd.nd rfl (.inl rfl) (pe_callB call_abs (by rfl) T.b_abs (by decide +kernel) (pa_cons (pv 1) pa_nil)))
      (pss_cons (ps_while PassesOwn.never (pt_cmpR op_gt (pv 1) pe_int (nomark _)) (pss_one (ps_par (i := 0) (j := 1) (by rfl) scGcd.nd rfl rfl (by decide) rfl rfl (pa_cons (pv 1) (pa_cons (pe_op op_modN (pe_callTy call_int1 (by rfl) T.b_int (by decide +kernel) (pa_cons (pv 0) pa_nil)) (pv 1)) pa_nil)) (by rfl))))
      (pss_one (ps_ret (pv 0)))))), ?_⟩
  simp only [abs_if, cx_K, decide_true, decide_false, reduceCtorEq, gTp, gCons, gNil, ca_0, ca_1, ca_2, ca_3, ca_4, ca_5, ca_6, ca_7, ca_8, ca_9, ca_10, ca_11, ca_12, ca_13, ca_14, ca_15, ca_16, ca_17, ca_18, ca_19, ca_20, ca_21, ca_22, ca_23, ca_24, ca_25, ca_26, ca_27, ca_28, ca_29, ca_30, not_true_eq_false, not_false_eq_true, Int.reduceEq, Nat.reduceEqDiff, Nat.reduceLeDiff, rGcd, V.ty.injEq, eq_self, List.not_mem_nil, beq_self_eq_true, HO.lst.injEq, HO.tup.injEq, tFor_eq, iRng1, iList, iTup, nat10, tSeq, rIxA, rSetA, rIsN, rIsT, tTp, tLs, itsO_tup, itsO_lst, tyO_tup, tyO_lst, tyO_dK, tyN_non, tyN_bl, tyN_int, tyN_str, tyN_ref, tyNs_lt, isB, upd_same, upd_upd, sizeLine_eq, List.mem_cons, String.reduceBEq, String.reduceEq, Bool.or_false, Bool.or_true, Bool.and_false, Bool.false_or, Bool.and_self, Bool.false_and, Bool.not_false, Bool.not_true, List.any_cons, List.any_nil, atI_0, setI_0, atI_1, setI_1, atI_2, setI_2, atI_3, setI_3, atI_4, setI_4, atI_5, setI_5, atI_6, setI_6, tAsg, gName, tOp, tUn, tVar, tC, tCons, L2.tNil, tRet, tIfS, tTest, tCB, tCall, rI, rI0, rU, tNext, tB, tAnd, tOr, tNot, tAndV, tOrV, tNotV, tDrop, tIf, tPar, gSub, rIxL, rIxT, rEq, rNe, rSetL, tBits,
    L2.start, List.map_cons, List.map_nil, List.cons_append, List.nil_append, List.append_nil, List.length_cons, List.length_nil, List.replicate, Nat.reduceAdd, Nat.reduceSub, Nat.zero_add, List.getElem?_cons_zero, List.getElem?_cons_succ, List.set_cons_zero, List.set_cons_succ,
    Option.some.injEq, exists_eq_left', exists_eq_left, V.int.injEq, V.bl.injEq, V.ref.injEq, V.str.injEq, List.cons.injEq, reduceCtorEq, and_true, true_and, false_and, and_false, exists_false, or_false, false_or, or_true, true_or, exists_const, CMul, CDiv, CPow, and_assoc, exists_and_left, exists_and_right, Int.reducePow, Int.reduceNeg, Int.reduceLT, Int.reduceLE, Nat.reducePow, Nat.reduceLT, Int.reduceToNat, gt_iff_lt, ge_iff_le, decide_eq_true_eq, Bool.not_eq_true', decide_eq_false_iff_not, scal, ↓reduceIte, Bool.false_eq_true]
  refine while_by (GcdW a b H) GcdM ⟨_, _, rfl, rfl, by omega, by omega, rfl⟩ ?_ ?_
  · rintro σ H' ⟨l, r, rfl, rfl, hl, hr, e⟩
    simp only [cx_K, decide_true, decide_false, reduceCtorEq, gTp, gCons, gNil, ca_0, ca_1, ca_2, ca_3, ca_4, ca_5, ca_6, ca_7, ca_8, ca_9, ca_10, ca_11, ca_12, ca_13, ca_14, ca_15, ca_16, ca_17, ca_18, ca_19, ca_20, ca_21, ca_22, ca_23, ca_24, ca_25, ca_26, ca_27, ca_28, ca_29, ca_30, not_true_eq_false, not_false_eq_true, Int.reduceEq, Nat.reduceEqDiff, Nat.reduceLeDiff, rGcd, V.ty.injEq, eq_self, List.not_mem_nil, beq_self_eq_true, HO.lst.injEq, HO.tup.injEq, tFor_eq, iRng1, iList, iTup, nat10, tSeq, rIxA, rSetA, rIsN, rIsT, tTp, tLs, itsO_tup, itsO_lst, tyO_tup, tyO_lst, tyO_dK, tyN_non, tyN_bl, tyN_int, tyN_str, tyN_ref, tyNs_lt, isB, upd_same, upd_upd, sizeLine_eq, List.mem_cons, String.reduceBEq, String.reduceEq, Bool.or_false, Bool.or_true, Bool.and_false, Bool.false_or, Bool.and_self, Bool.false_and, Bool.not_false, Bool.not_true, List.any_cons, List.any_nil, atI_0, setI_0, atI_1, setI_1, atI_2, setI_2, atI_3, setI_3, atI_4, setI_4, atI_5, setI_5, atI_6, setI_6, tAsg, gName, tOp, tUn, tVar, tC, tCons, L2.tNil, tRet, tIfS, tTest, tCB, tCall, rI, rI0, rU, tNext, tB, tAnd, tOr, tNot, tAndV, tOrV, tNotV, tDrop, tIf, tPar, gSub, rIxL, rIxT, rEq, rNe, rSetL, tBits,
    L2.start, List.map_cons, List.map_nil, List.cons_append, List.nil_append, List.append_nil, List.length_cons, List.length_nil, List.replicate, Nat.reduceAdd, Nat.reduceSub, Nat.zero_add, List.getElem?_cons_zero, List.getElem?_cons_succ, List.set_cons_zero, List.set_cons_succ,
    Option.some.injEq, exists_eq_left', exists_eq_left, V.int.injEq, V.bl.injEq, V.ref.injEq, V.str.injEq, List.cons.injEq, reduceCtorEq, and_true, true_and, false_and, and_false, exists_false, or_false, false_or, or_true, true_or, exists_const, CMul, CDiv, CPow, and_assoc, exists_and_left, exists_and_right, Int.reducePow, Int.reduceNeg, Int.reduceLT, Int.reduceLE, Nat.reducePow, Nat.reduceLT, Int.reduceToNat, gt_iff_lt, ge_iff_le, decide_eq_true_eq, Bool.not_eq_true', decide_eq_false_iff_not, scal, ↓reduceIte, Bool.false_eq_true]
    refine ite2 (fun h => ?_) (fun h => ?_)
    · refine ⟨by omega, ⟨_, _, rfl, rfl, hr, ?_, ?_⟩, ?_⟩
      · rw [Int.fmod_eq_emod_of_nonneg l hr]
        exact Int.emod_nonneg _ (by omega)
      · rw [Int.fmod_eq_emod_of_nonneg l hr, ← e]
        show Nat.gcd r.natAbs (l % r).natAbs = Nat.gcd l.natAbs r.natAbs
        rw [Int.natAbs_emod_of_nonneg hl, Nat.gcd_comm l.natAbs, Nat.gcd_rec r.natAbs l.natAbs, Nat.gcd_comm]
      · show (l.fmod r).toNat < r.toNat
        rw [Int.fmod_eq_emod_of_nonneg l hr]
        have := Int.emod_lt_of_pos l h
        omega
    · have hr0 : r = 0 := by omega
      subst hr0
      have e2 : l = ((Int.gcd a b : Nat) : Int) := by
        rw [← e, Int.gcd_zero_right]
        omega
      rw [e2]
      exact q
  · rintro σ H' Q' Q2 hq ⟨v, e, i, j, h1, h2, k, ek, h⟩
    exact ⟨v, e, i, j, h1, h2, k, ek, hq _ _ h⟩
/-- the law's own lowest terms; 0 beneath gives 0 -/
def Lw (q : Qt) (t b : Int) : Prop := (b = 0 → q = (0, 1)) ∧ (b ≠ 0 → Is q t b)
/-- hands back a fraction, all else as it was -/
def Gv (K : PySem.W.Frag) (H : Hp) (Q : VK) (q : Qt) : Prop := ∀ (p : Addr) (H' : Hp), Same H H' → ob K H' p = some (frt q) → Q (.ref p) H'
theorem Gv.new {K : PySem.W.Frag} {H : Hp} {Q : VK} {q : Qt} (h : Gv K H Q q) {p : Addr} (hp : H p = none) (kp : K.lookup p = none) : Q (.ref p) (upd H p (.tup [.int q.1, .int q.2])) := h p _ (Same.new hp _) (ob_new kp)
def spLowest (K : PySem.W.Frag) : Sp := fun vs H Q _ => ∃ t b : Int, vs = [.int t, .int b] ∧ b.natAbs < 2 ^ 8000 ∧ ∀ q, Lw q t b → Gv K H Q q
abbrev sLowest : Stmt := topS 32
theorem scLowest : FnScope ["_law_top", "_law_bottom", "_law_common"] ["_law_top", "_law_bottom"] (defScope sLowest) := ⟨rfl, rfl, rfl, by decide +kernel, rfl, by decide +kernel, by decide +kernel⟩
theorem k_Lowest (T : Bt K mg) (D : Dfn K mg "_law_lowest" sLowest ["_law_top", "_law_bottom"]) (d__law_gcd : Kn P w K mg base 1 "_law_gcd" ["_law_left", "_law_right"] spGcd) : Kn P w K mg base 2 "_law_lowest" ["_law_top", "_law_bottom"] (spLowest K) := by
  refine Kn.mk' D scLowest (fun vs H Q E h => ?_) (fun f cdv A outer s H vs Q E hr h => ?_)
  · obtain ⟨t, b, rfl, _⟩ := h
    rfl
  obtain ⟨t, b, rfl, hz, q⟩ := h
  refine ⟨_, (pss_cons (ps_if (pt_cmpR op_eq (pv 1) pe_int (nomark _)) (pss_one (ps_ret (pe_tp (pa_cons pe_int (pa_cons pe_int pa_nil))))) pss_nil)
      (pss_cons (ps_if (pt_cmpR op_lt (pv 1) pe_int (nomark _)) (pss_cons (ps_set (i := 0) scLowest.nd rfl (.inl rfl) (pe_un un_neg (pv 0)))
      (pss_one (ps_set (i := 1) scLowest.nd rfl (.inl rfl) (pe_un un_neg (pv 1))))) pss_nil)
      (pss_cons (ps_set (i := 2) scLowest.nd rfl (.inl rfl) (pe_kn d__law_gcd hr (by rfl) (pa_cons (pv 0) (pa_cons (pv 1) pa_nil))))
      (pss_one (ps_ret (pe_tp (pa_cons (pe_op op_fdivW (pv 0) (pv 2)) (pa_cons (pe_op op_fdivW (pv 1) (pv 2)) pa_nil)))))))), ?_⟩
  simp only [cx_K, decide_true, decide_false, reduceCtorEq, gTp, gCons, gNil, ca_0, ca_1, ca_2, ca_3, ca_4, ca_5, ca_6, ca_7, ca_8, ca_9, ca_10, ca_11, ca_12, ca_13, ca_14, ca_15, ca_16, ca_17, ca_18, ca_19, ca_20, ca_21, ca_22, ca_23, ca_24, ca_25, ca_26, ca_27, ca_28, ca_29, ca_30, not_true_eq_false, not_false_eq_true, Int.reduceEq, Nat.reduceEqDiff, Nat.reduceLeDiff, rGcd, V.ty.injEq, eq_self, List.not_mem_nil, beq_self_eq_true, HO.lst.injEq, HO.tup.injEq, tFor_eq, iRng1, iList, iTup, nat10, tSeq, rIxA, rSetA, rIsN, rIsT, tTp, tLs, itsO_tup, itsO_lst, tyO_tup, tyO_lst, tyO_dK, tyN_non, tyN_bl, tyN_int, tyN_str, tyN_ref, tyNs_lt, isB, upd_same, upd_upd, sizeLine_eq, List.mem_cons, String.reduceBEq, String.reduceEq, Bool.or_false, Bool.or_true, Bool.and_false, Bool.false_or, Bool.and_self, Bool.false_and, Bool.not_false, Bool.not_true, List.any_cons, List.any_nil, atI_0, setI_0, atI_1, setI_1, atI_2, setI_2, atI_3, setI_3, atI_4, setI_4, atI_5, setI_5, atI_6, setI_6, tAsg, gName, tOp, tUn, tVar, tC, tCons, L2.tNil, tRet, tIfS, tTest, tCB, tCall, rI, rI0, rU, tNext, tB, tAnd, tOr, tNot, tAndV, tOrV, tNotV, tDrop, tIf, tPar, gSub, rIxL, rIxT, rEq, rNe, rSetL, tBits,
    L2.start, List.map_cons, List.map_nil, List.cons_append, List.nil_append, List.append_nil, List.length_cons, List.length_nil, List.replicate, Nat.reduceAdd, Nat.reduceSub, Nat.zero_add, List.getElem?_cons_zero, List.getElem?_cons_succ, List.set_cons_zero, List.set_cons_succ,
    Option.some.injEq, exists_eq_left', exists_eq_left, V.int.injEq, V.bl.injEq, V.ref.injEq, V.str.injEq, List.cons.injEq, reduceCtorEq, and_true, true_and, false_and, and_false, exists_false, or_false, false_or, or_true, true_or, exists_const, CMul, CDiv, CPow, and_assoc, exists_and_left, exists_and_right, Int.reducePow, Int.reduceNeg, Int.reduceLT, Int.reduceLE, Nat.reducePow, Nat.reduceLT, Int.reduceToNat, gt_iff_lt, ge_iff_le, decide_eq_true_eq, Bool.not_eq_true', decide_eq_false_iff_not, scal, ↓reduceIte, Bool.false_eq_true]
  refine ite2 (fun h => ?_) (fun h => ?_)
  · exact fun p hp kp => (q (0, 1) ⟨fun _ => rfl, fun z => absurd h z⟩).new hp kp
  have key : ∀ t' b' : Int, 0 < b' → b'.natAbs < 2 ^ 8000 → (∀ q, Is q t' b' → Gv K H Q q) → CDivW t' ((Int.gcd t' b' : Nat) : Int) ∧ CDivW b' ((Int.gcd t' b' : Nat) : Int) ∧ ∀ p, H p = none → K.lookup p = none → Q (.ref p) (upd H p (.tup [.int (t' / ((Int.gcd t' b' : Nat) : Int)), .int (b' / ((Int.gcd t' b' : Nat) : Int))])) := fun t' b' h0 hz hq => by
    have g0 := gcd_pos (t := t') (b := b') (by omega)
    have g1 := gcd_le (t := t') (b := b') (by omega)
    have g2 : ((Int.gcd t' b' : Nat) : Int).natAbs < 2 ^ 8000 := by rw [Int.natAbs_natCast]; omega
    exact ⟨wide_div (b := 8000) (by omega) g2 (by omega) (by omega), wide_div (b := 8000) (by omega) g2 (by omega) (by omega), fun p hp kp => (hq _ (is_div h0)).new hp kp⟩
  refine ite2 (fun hb => ?_) (fun hb => ?_)
  · have k := key (-t) (-b) (by omega) (by rw [Int.natAbs_neg]; exact hz) fun z hz => q z ⟨fun e => absurd e h, fun _ => is_neg hz⟩
    refine ⟨_, _, rfl, ?_⟩
    simp only [cx_K, decide_true, decide_false, reduceCtorEq, gTp, gCons, gNil, ca_0, ca_1, ca_2, ca_3, ca_4, ca_5, ca_6, ca_7, ca_8, ca_9, ca_10, ca_11, ca_12, ca_13, ca_14, ca_15, ca_16, ca_17, ca_18, ca_19, ca_20, ca_21, ca_22, ca_23, ca_24, ca_25, ca_26, ca_27, ca_28, ca_29, ca_30, not_true_eq_false, not_false_eq_true, Int.reduceEq, Nat.reduceEqDiff, Nat.reduceLeDiff, rGcd, V.ty.injEq, eq_self, List.not_mem_nil, beq_self_eq_true, HO.lst.injEq, HO.tup.injEq, tFor_eq, iRng1, iList, iTup, nat10, tSeq, rIxA, rSetA, rIsN, rIsT, tTp, tLs, itsO_tup, itsO_lst, tyO_tup, tyO_lst, tyO_dK, tyN_non, tyN_bl, tyN_int, tyN_str, tyN_ref, tyNs_lt, isB, upd_same, upd_upd, sizeLine_eq, List.mem_cons, String.reduceBEq, String.reduceEq, Bool.or_false, Bool.or_true, Bool.and_false, Bool.false_or, Bool.and_self, Bool.false_and, Bool.not_false, Bool.not_true, List.any_cons, List.any_nil, atI_0, setI_0, atI_1, setI_1, atI_2, setI_2, atI_3, setI_3, atI_4, setI_4, atI_5, setI_5, atI_6, setI_6, tAsg, gName, tOp, tUn, tVar, tC, tCons, L2.tNil, tRet, tIfS, tTest, tCB, tCall, rI, rI0, rU, tNext, tB, tAnd, tOr, tNot, tAndV, tOrV, tNotV, tDrop, tIf, tPar, gSub, rIxL, rIxT, rEq, rNe, rSetL, tBits,
    L2.start, List.map_cons, List.map_nil, List.cons_append, List.nil_append, List.append_nil, List.length_cons, List.length_nil, List.replicate, Nat.reduceAdd, Nat.reduceSub, Nat.zero_add, List.getElem?_cons_zero, List.getElem?_cons_succ, List.set_cons_zero, List.set_cons_succ,
    Option.some.injEq, exists_eq_left', exists_eq_left, V.int.injEq, V.bl.injEq, V.ref.injEq, V.str.injEq, List.cons.injEq, reduceCtorEq, and_true, true_and, false_and, and_false, exists_false, or_false, false_or, or_true, true_or, exists_const, CMul, CDiv, CPow, and_assoc, exists_and_left, exists_and_right, Int.reducePow, Int.reduceNeg, Int.reduceLT, Int.reduceLE, Nat.reducePow, Nat.reduceLT, Int.reduceToNat, gt_iff_lt, ge_iff_le, decide_eq_true_eq, Bool.not_eq_true', decide_eq_false_iff_not, scal, ↓reduceIte, Bool.false_eq_true]
    exact k
  · have k := key t b (by omega) hz fun z hz => q z ⟨fun e => absurd e h, fun _ => hz⟩
    refine ⟨_, _, rfl, ?_⟩
    simp only [cx_K, decide_true, decide_false, reduceCtorEq, gTp, gCons, gNil, ca_0, ca_1, ca_2, ca_3, ca_4, ca_5, ca_6, ca_7, ca_8, ca_9, ca_10, ca_11, ca_12, ca_13, ca_14, ca_15, ca_16, ca_17, ca_18, ca_19, ca_20, ca_21, ca_22, ca_23, ca_24, ca_25, ca_26, ca_27, ca_28, ca_29, ca_30, not_true_eq_false, not_false_eq_true, Int.reduceEq, Nat.reduceEqDiff, Nat.reduceLeDiff, rGcd, V.ty.injEq, eq_self, List.not_mem_nil, beq_self_eq_true, HO.lst.injEq, HO.tup.injEq, tFor_eq, iRng1, iList, iTup, nat10, tSeq, rIxA, rSetA, rIsN, rIsT, tTp, tLs, itsO_tup, itsO_lst, tyO_tup, tyO_lst, tyO_dK, tyN_non, tyN_bl, tyN_int, tyN_str, tyN_ref, tyNs_lt, isB, upd_same, upd_upd, sizeLine_eq, List.mem_cons, String.reduceBEq, String.reduceEq, Bool.or_false, Bool.or_true, Bool.and_false, Bool.false_or, Bool.and_self, Bool.false_and, Bool.not_false, Bool.not_true, List.any_cons, List.any_nil, atI_0, setI_0, atI_1, setI_1, atI_2, setI_2, atI_3, setI_3, atI_4, setI_4, atI_5, setI_5, atI_6, setI_6, tAsg, gName, tOp, tUn, tVar, tC, tCons, L2.tNil, tRet, tIfS, tTest, tCB, tCall, rI, rI0, rU, tNext, tB, tAnd, tOr, tNot, tAndV, tOrV, tNotV, tDrop, tIf, tPar, gSub, rIxL, rIxT, rEq, rNe, rSetL, tBits,
    L2.start, List.map_cons, List.map_nil, List.cons_append, List.nil_append, List.append_nil, List.length_cons, List.length_nil, List.replicate, Nat.reduceAdd, Nat.reduceSub, Nat.zero_add, List.getElem?_cons_zero, List.getElem?_cons_succ, List.set_cons_zero, List.set_cons_succ,
    Option.some.injEq, exists_eq_left', exists_eq_left, V.int.injEq, V.bl.injEq, V.ref.injEq, V.str.injEq, List.cons.injEq, reduceCtorEq, and_true, true_and, false_and, and_false, exists_false, or_false, false_or, or_true, true_or, exists_const, CMul, CDiv, CPow, and_assoc, exists_and_left, exists_and_right, Int.reducePow, Int.reduceNeg, Int.reduceLT, Int.reduceLE, Nat.reducePow, Nat.reduceLT, Int.reduceToNat, gt_iff_lt, ge_iff_le, decide_eq_true_eq, Bool.not_eq_true', decide_eq_false_iff_not, scal, ↓reduceIte, Bool.false_eq_true]
    exact k
end
end My

namespace My
open PySem PySem.Spec PyProof.Rows L2
section
variable {P : Program} {w : World} {K : PySem.W.Frag} {mg : Str → Option Value} {base : Heap}
end
structure DfnD (K : PySem.W.Frag) (mg : Str → Option Value) (x : Str) (st : Stmt) (ps : List Str) : Prop where
  ex : ∃ f fd dvs, FunD K x x (defArgs st) (defBody st) (defScope st) dvs [] f fd ∧ mg x = some (.ref f) ∧ Binds K fd ps []
theorem Kn.mkD {P : Program} {w : World} {K : PySem.W.Frag} {mg : Str → Option Value} {base : Heap} {x : Str} {st : Stmt} {N ps : List Str} {k : Nat} {sp : Sp} (D : DfnD K mg x st ps) (S : FnScope N ps (defScope st)) (len : ∀ vs H Q E, sp vs H Q E → vs.length = ps.length)
    (hbody : ∀ (f : Addr) (cdv : Value) (A : Around) (outer : List Env) (s : Shared) (H : Hp) (vs : List V) (Q : VK) (E : XK), Room k (A.deeper (envOfC x (defScope st) s.heap.objs.size f cdv)) → sp vs H Q E →
      ∃ t, PSs (cxOf CX0 P w K mg base N x (defScope st) f cdv A outer s H E).nox (defBody st) t ∧ t { nx := fun _ H' => Q .non H', rt := Q } (start N vs) H) : Kn P w K mg base (k + 1) x ps sp := by
  obtain ⟨f, fd, dvs, F, m, b⟩ := D.ex
  exact ⟨f, fd, m, F.kp, b, F.ok S len fun cdv A outer s H vs Q E hr h => let ⟨t, a, c⟩ := hbody f cdv A outer s H vs Q E hr h; ⟨t, a.nox, c⟩⟩
section
variable {P : Program} {w : World} {K : PySem.W.Frag} {mg : Str → Option Value} {base : Heap}
def spRequire : Sp := fun vs H Q _ => ∃ x : V, vs = [.bl true, x] ∧ Q .non H
abbrev sRequire : Stmt := topS 15
theorem scRequire : FnScope ["well_formed", "what"] ["well_formed", "what"] (defScope sRequire) := ⟨rfl, rfl, rfl, by decide +kernel, rfl, by decide +kernel, by decide +kernel⟩
theorem k_Require (T : Bt K mg) (D : Dfn K mg "require" sRequire ["well_formed", "what"]) : Kn P w K mg base 1 "require" ["well_formed", "what"] spRequire := by
  refine Kn.mk' D scRequire (fun vs H Q E h => ?_) (fun f cdv A outer s H vs Q E hr h => ?_)
  · obtain ⟨x, rfl, _⟩ := h
    rfl
  obtain ⟨x, rfl, q⟩ := h
  refine ⟨_, (pss_one (ps_if (pt_not (pt_val (pv 0))) (pss_one ps_never) pss_nil)), ?_⟩
  simp only [cx_K, decide_true, decide_false, reduceCtorEq, gTp, gCons, gNil, ca_0, ca_1, ca_2, ca_3, ca_4, ca_5, ca_6, ca_7, ca_8, ca_9, ca_10, ca_11, ca_12, ca_13, ca_14, ca_15, ca_16, ca_17, ca_18, ca_19, ca_20, ca_21, ca_22, ca_23, ca_24, ca_25, ca_26, ca_27, ca_28, ca_29, ca_30, not_true_eq_false, not_false_eq_true, Int.reduceEq, Nat.reduceEqDiff, Nat.reduceLeDiff, rGcd, V.ty.injEq, eq_self, List.not_mem_nil, beq_self_eq_true, HO.lst.injEq, HO.tup.injEq, tFor_eq, iRng1, iList, iTup, nat10, tSeq, rIxA, rSetA, rIsN, rIsT, tTp, tLs, itsO_tup, itsO_lst, tyO_tup, tyO_lst, tyO_dK, tyN_non, tyN_bl, tyN_int, tyN_str, tyN_ref, tyNs_lt, isB, upd_same, upd_upd, sizeLine_eq, List.mem_cons, String.reduceBEq, String.reduceEq, Bool.or_false, Bool.or_true, Bool.and_false, Bool.false_or, Bool.and_self, Bool.false_and, Bool.not_false, Bool.not_true, List.any_cons, List.any_nil, atI_0, setI_0, atI_1, setI_1, atI_2, setI_2, atI_3, setI_3, atI_4, setI_4, atI_5, setI_5, atI_6, setI_6, tAsg, gName, tOp, tUn, tVar, tC, tCons, L2.tNil, tRet, tIfS, tTest, tCB, tCall, rI, rI0, rU, tNext, tB, tAnd, tOr, tNot, tAndV, tOrV, tNotV, tDrop, tIf, tPar, gSub, rIxL, rIxT, rEq, rNe, rSetL, tBits,
    L2.start, List.map_cons, List.map_nil, List.cons_append, List.nil_append, List.append_nil, List.length_cons, List.length_nil, List.replicate, Nat.reduceAdd, Nat.reduceSub, Nat.zero_add, List.getElem?_cons_zero, List.getElem?_cons_succ, List.set_cons_zero, List.set_cons_succ,
    Option.some.injEq, exists_eq_left', exists_eq_left, V.int.injEq, V.bl.injEq, V.ref.injEq, V.str.injEq, List.cons.injEq, reduceCtorEq, and_true, true_and, false_and, and_false, exists_false, or_false, false_or, or_true, true_or, exists_const, CMul, CDiv, CPow, and_assoc, exists_and_left, exists_and_right, Int.reducePow, Int.reduceNeg, Int.reduceLT, Int.reduceLE, Nat.reducePow, Nat.reduceLT, Int.reduceToNat, gt_iff_lt, ge_iff_le, decide_eq_true_eq, Bool.not_eq_true', decide_eq_false_iff_not, scal, ↓reduceIte, Bool.false_eq_true]
  exact q
def wholeV : V → Bool
  | .int _ => true
  | _ => false
theorem wholeV_ty {H : Hp} {v : V} {t : String} (h : tyN K H v = some t) : wholeV v = (t == "int") := by
  cases v with
  | ref a =>
    have h1 : tyO (ob K H a) = some t := h
    unfold tyO at h1
    split at h1 <;> first | (cases h1; rfl) | cases h1
  | _ => first | (cases h; rfl) | cases h
def spWhole (K : PySem.W.Frag) : Sp := fun vs H Q _ => ∃ v, vs = [v] ∧ (tyN K H v).isSome ∧ Q (.bl (wholeV v)) H
abbrev sWhole : Stmt := topS 16
theorem scWhole : FnScope ["value"] ["value"] (defScope sWhole) := ⟨rfl, rfl, rfl, by decide +kernel, rfl, by decide +kernel, by decide +kernel⟩
theorem k_Whole (T : Bt K mg) (D : Dfn K mg "is_whole" sWhole ["value"]) : Kn P w K mg base 1 "is_whole" ["value"] (spWhole K) := by
  refine Kn.mk' D scWhole (fun vs H Q E h => ?_) (fun f cdv A outer s H vs Q E hr h => ?_)
  · obtain ⟨v, rfl, _⟩ := h
    rfl
  obtain ⟨v, rfl, hv, q⟩ := h
  refine ⟨_, (pss_one (ps_ret (pe_and (pe_callB call_isN (by rfl) T.b_isinstance (by decide +kernel) (pa_cons (pv 0) (pa_cons (pe_bltn (v := .ty "int") (by rfl) T.b_int (by decide +kernel) rfl) pa_nil))) (pe_one (pe_not (pe_callB call_isN (by rfl) T.b_isinstance (by decide +kernel) (pa_cons (pv 0) (pa_cons (pe_bltn (v := .ty "bool") (by rfl) T.b_bool (by decide +kernel) rfl) pa_nil)))))))), ?_⟩
  obtain ⟨t, ht⟩ := Option.isSome_iff_exists.mp hv
  rw [wholeV_ty ht] at q
  have mt := tyN_mem ht
  simp only [List.mem_cons, List.not_mem_nil, or_false] at mt
  rcases mt with rfl | rfl | rfl | rfl | rfl | rfl | rfl <;> (simp only [ht, cx_K, decide_true, decide_false, reduceCtorEq, gTp, gCons, gNil, ca_0, ca_1, ca_2, ca_3, ca_4, ca_5, ca_6, ca_7, ca_8, ca_9, ca_10, ca_11, ca_12, ca_13, ca_14, ca_15, ca_16, ca_17, ca_18, ca_19, ca_20, ca_21, ca_22, ca_23, ca_24, ca_25, ca_26, ca_27, ca_28, ca_29, ca_30, not_true_eq_false, not_false_eq_true, Int.reduceEq, Nat.reduceEqDiff, Nat.reduceLeDiff, rGcd, V.ty.injEq, eq_self, List.not_mem_nil, beq_self_eq_true, HO.lst.injEq, HO.tup.injEq, tFor_eq, iRng1, iList, iTup, nat10, tSeq, rIxA, rSetA, rIsN, rIsT, tTp, tLs, itsO_tup, itsO_lst, tyO_tup, tyO_lst, tyO_dK, tyN_non, tyN_bl, tyN_int, tyN_str, tyN_ref, tyNs_lt, isB, upd_same, upd_upd, sizeLine_eq, List.mem_cons, String.reduceBEq, String.reduceEq, Bool.or_false, Bool.or_true, Bool.and_false, Bool.false_or, Bool.and_self, Bool.false_and, Bool.not_false, Bool.not_true, List.any_cons, List.any_nil, atI_0, setI_0, atI_1, setI_1, atI_2, setI_2, atI_3, setI_3, atI_4, setI_4, atI_5, setI_5, atI_6, setI_6, tAsg, gName, tOp, tUn, tVar, tC, tCons, L2.tNil, tRet, tIfS, tTest, tCB, tCall, rI, rI0, rU, tNext, tB, tAnd, tOr, tNot, tAndV, tOrV, tNotV, tDrop, tIf, tPar, gSub, rIxL, rIxT, rEq, rNe, rSetL, tBits,
    L2.start, List.map_cons, List.map_nil, List.cons_append, List.nil_append, List.append_nil, List.length_cons, List.length_nil, List.replicate, Nat.reduceAdd, Nat.reduceSub, Nat.zero_add, List.getElem?_cons_zero, List.getElem?_cons_succ, List.set_cons_zero, List.set_cons_succ,
    Option.some.injEq, exists_eq_left', exists_eq_left, V.int.injEq, V.bl.injEq, V.ref.injEq, V.str.injEq, List.cons.injEq, reduceCtorEq, and_true, true_and, false_and, and_false, exists_false, or_false, false_or, or_true, true_or, exists_const, CMul, CDiv, CPow, and_assoc, exists_and_left, exists_and_right, Int.reducePow, Int.reduceNeg, Int.reduceLT, Int.reduceLE, Nat.reducePow, Nat.reduceLT, Int.reduceToNat, gt_iff_lt, ge_iff_le, decide_eq_true_eq, Bool.not_eq_true', decide_eq_false_iff_not, scal, ↓reduceIte, Bool.false_eq_true]; simpa using q)
abbrev sLWhole : Stmt := topS 36
theorem scLWhole : FnScope ["_law_told"] ["_law_told"] (defScope sLWhole) := ⟨rfl, rfl, rfl, by decide +kernel, rfl, by decide +kernel, by decide +kernel⟩
theorem k_LWhole (T : Bt K mg) (D : Dfn K mg "_law_is_whole" sLWhole ["_law_told"]) : Kn P w K mg base 1 "_law_is_whole" ["_law_told"] (spWhole K) := by
  refine Kn.mk' D scLWhole (fun vs H Q E h => ?_) (fun f cdv A outer s H vs Q E hr h => ?_)
  · obtain ⟨v, rfl, _⟩ := h
    rfl
  obtain ⟨v, rfl, hv, q⟩ := h
  refine ⟨_, (pss_one (ps_ret (pe_and (pe_callB call_isN (by rfl) T.b_isinstance (by decide +kernel) (pa_cons (pv 0) (pa_cons (pe_bltn (v := .ty "int") (by rfl) T.b_int (by decide +kernel) rfl) pa_nil))) (pe_one (pe_not (pe_callB call_isN (by rfl) T.b_isinstance (by decide +kernel) (pa_cons (pv 0) (pa_cons (pe_bltn (v := .ty "bool") (by rfl) T.b_bool (by decide +kernel) rfl) pa_nil)))))))), ?_⟩
  obtain ⟨t, ht⟩ := Option.isSome_iff_exists.mp hv
  rw [wholeV_ty ht] at q
  have mt := tyN_mem ht
  simp only [List.mem_cons, List.not_mem_nil, or_false] at mt
  rcases mt with rfl | rfl | rfl | rfl | rfl | rfl | rfl <;> (simp only [ht, cx_K, decide_true, decide_false, reduceCtorEq, gTp, gCons, gNil, ca_0, ca_1, ca_2, ca_3, ca_4, ca_5, ca_6, ca_7, ca_8, ca_9, ca_10, ca_11, ca_12, ca_13, ca_14, ca_15, ca_16, ca_17, ca_18, ca_19, ca_20, ca_21, ca_22, ca_23, ca_24, ca_25, ca_26, ca_27, ca_28, ca_29, ca_30, not_true_eq_false, not_false_eq_true, Int.reduceEq, Nat.reduceEqDiff, Nat.reduceLeDiff, rGcd, V.ty.injEq, eq_self, List.not_mem_nil, beq_self_eq_true, HO.lst.injEq, HO.tup.injEq, tFor_eq, iRng1, iList, iTup, nat10, tSeq, rIxA, rSetA, rIsN, rIsT, tTp, tLs, itsO_tup, itsO_lst, tyO_tup, tyO_lst, tyO_dK, tyN_non, tyN_bl, tyN_int, tyN_str, tyN_ref, tyNs_lt, isB, upd_same, upd_upd, sizeLine_eq, List.mem_cons, String.reduceBEq, String.reduceEq, Bool.or_false, Bool.or_true, Bool.and_false, Bool.false_or, Bool.and_self, Bool.false_and, Bool.not_false, Bool.not_true, List.any_cons, List.any_nil, atI_0, setI_0, atI_1, setI_1, atI_2, setI_2, atI_3, setI_3, atI_4, setI_4, atI_5, setI_5, atI_6, setI_6, tAsg, gName, tOp, tUn, tVar, tC, tCons, L2.tNil, tRet, tIfS, tTest, tCB, tCall, rI, rI0, rU, tNext, tB, tAnd, tOr, tNot, tAndV, tOrV, tNotV, tDrop, tIf, tPar, gSub, rIxL, rIxT, rEq, rNe, rSetL, tBits,
    L2.start, List.map_cons, List.map_nil, List.cons_append, List.nil_append, List.append_nil, List.length_cons, List.length_nil, List.replicate, Nat.reduceAdd, Nat.reduceSub, Nat.zero_add, List.getElem?_cons_zero, List.getElem?_cons_succ, List.set_cons_zero, List.set_cons_succ,
    Option.some.injEq, exists_eq_left', exists_eq_left, V.int.injEq, V.bl.injEq, V.ref.injEq, V.str.injEq, List.cons.injEq, reduceCtorEq, and_true, true_and, false_and, and_false, exists_false, or_false, false_or, or_true, true_or, exists_const, CMul, CDiv, CPow, and_assoc, exists_and_left, exists_and_right, Int.reducePow, Int.reduceNeg, Int.reduceLT, Int.reduceLE, Nat.reducePow, Nat.reduceLT, Int.reduceToNat, gt_iff_lt, ge_iff_le, decide_eq_true_eq, Bool.not_eq_true', decide_eq_false_iff_not, scal, ↓reduceIte, Bool.false_eq_true]; simpa using q)
def spFraction (K : PySem.W.Frag) : Sp := fun vs H Q _ => ∃ n d : Int, vs = [.int n, .int d] ∧ d ≠ 0 ∧ d.natAbs < 2 ^ 8000 ∧ ∀ q, Is q n d → Gv K H Q q
theorem gcdX {n d : Int} (h0 : d ≠ 0) (hz : d.natAbs < 2 ^ 8000) (x : Int) : CDivX x (if d < 0 then -((Int.gcd n d : Nat) : Int) else (Int.gcd n d : Nat)) := by
  have g0 := gcd_pos (t := n) (b := d) h0
  have g1 := gcd_le (t := n) (b := d) h0
  have e : 2 ^ 8000 ≤ 2 ^ 8999 := Nat.pow_le_pow_right (by omega) (by omega)
  unfold CDivX
  split <;> refine ⟨by omega, by omega⟩
abbrev sFraction : Stmt := topS 18
theorem scFraction : FnScope ["numerator", "denominator", "divisor"] ["numerator", "denominator"] (defScope sFraction) := ⟨rfl, rfl, rfl, by decide +kernel, rfl, by decide +kernel, by decide +kernel⟩
theorem k_Fraction (T : Bt K mg) (D : DfnD K mg "fraction" sFraction ["numerator", "denominator"]) (d_require : Kn P w K mg base 1 "require" ["well_formed", "what"] spRequire) (d_is_whole : Kn P w K mg base 1 "is_whole" ["value"] (spWhole K)) : Kn P w K mg base 2 "fraction" ["numerator", "denominator"] (spFraction K) := by
  refine Kn.mkD D scFraction (fun vs H Q E h => ?_) (fun f cdv A outer s H vs Q E hr h => ?_)
  · obtain ⟨n, d, rfl, _⟩ := h
    rfl
  obtain ⟨n, d, rfl, h0, hz, q⟩ := h
  refine ⟨_, (pss_cons (ps_expr (pe_kn d_require hr (by rfl) (pa_cons (pe_kn d_is_whole hr (by rfl) (pa_cons (pv 0) pa_nil)) (pa_cons pe_str pa_nil))))
      (pss_cons (ps_expr (pe_kn d_require hr (by rfl) (pa_cons (pe_and (pe_kn d_is_whole hr (by rfl) (pa_cons (pv 1) pa_nil)) (pe_one (pe_cmpR op_ne (pv 1) pe_int (nomark _)))) (pa_cons pe_str pa_nil))))
      (pss_cons (ps_set (i := 2) scFraction.nd rfl (.inl rfl) (pe_callBfun cr_gcd (by rfl) T.g_gcd (pa_cons (pv 0) (pa_cons (pv 1) pa_nil))))
      (pss_cons (ps_if (pt_cmpR op_lt (pv 1) pe_int (nomark _)) (pss_one (ps_set (i := 2) scFraction.nd rfl (.inl rfl) (pe_un un_neg (pv 2)))) pss_nil)
      (pss_one (ps_ret (pe_tp (pa_cons (pe_op op_fdivX (pv 0) (pv 2)) (pa_cons (pe_op op_fdivX (pv 1) (pv 2)) pa_nil))))))))), ?_⟩
  simp only [cx_K, decide_true, decide_false, reduceCtorEq, gTp, gCons, gNil, ca_0, ca_1, ca_2, ca_3, ca_4, ca_5, ca_6, ca_7, ca_8, ca_9, ca_10, ca_11, ca_12, ca_13, ca_14, ca_15, ca_16, ca_17, ca_18, ca_19, ca_20, ca_21, ca_22, ca_23, ca_24, ca_25, ca_26, ca_27, ca_28, ca_29, ca_30, not_true_eq_false, not_false_eq_true, Int.reduceEq, Nat.reduceEqDiff, Nat.reduceLeDiff, rGcd, V.ty.injEq, eq_self, List.not_mem_nil, beq_self_eq_true, HO.lst.injEq, HO.tup.injEq, tFor_eq, iRng1, iList, iTup, nat10, tSeq, rIxA, rSetA, rIsN, rIsT, tTp, tLs, itsO_tup, itsO_lst, tyO_tup, tyO_lst, tyO_dK, tyN_non, tyN_bl, tyN_int, tyN_str, tyN_ref, tyNs_lt, isB, upd_same, upd_upd, sizeLine_eq, List.mem_cons, String.reduceBEq, String.reduceEq, Bool.or_false, Bool.or_true, Bool.and_false, Bool.false_or, Bool.and_self, Bool.false_and, Bool.not_false, Bool.not_true, List.any_cons, List.any_nil, atI_0, setI_0, atI_1, setI_1, atI_2, setI_2, atI_3, setI_3, atI_4, setI_4, atI_5, setI_5, atI_6, setI_6, tAsg, gName, tOp, tUn, tVar, tC, tCons, L2.tNil, tRet, tIfS, tTest, tCB, tCall, rI, rI0, rU, tNext, tB, tAnd, tOr, tNot, tAndV, tOrV, tNotV, tDrop, tIf, tPar, gSub, rIxL, rIxT, rEq, rNe, rSetL, tBits,
    L2.start, List.map_cons, List.map_nil, List.cons_append, List.nil_append, List.append_nil, List.length_cons, List.length_nil, List.replicate, Nat.reduceAdd, Nat.reduceSub, Nat.zero_add, List.getElem?_cons_zero, List.getElem?_cons_succ, List.set_cons_zero, List.set_cons_succ,
    Option.some.injEq, exists_eq_left', exists_eq_left, V.int.injEq, V.bl.injEq, V.ref.injEq, V.str.injEq, List.cons.injEq, reduceCtorEq, and_true, true_and, false_and, and_false, exists_false, or_false, false_or, or_true, true_or, exists_const, CMul, CDiv, CPow, and_assoc, exists_and_left, exists_and_right, Int.reducePow, Int.reduceNeg, Int.reduceLT, Int.reduceLE, Nat.reducePow, Nat.reduceLT, Int.reduceToNat, gt_iff_lt, ge_iff_le, decide_eq_true_eq, Bool.not_eq_true', decide_eq_false_iff_not, scal, ↓reduceIte, Bool.false_eq_true]
  refine ⟨_, rfl, rfl, ⟨_, rfl, ⟨_, rfl, rfl, ⟨true, rfl, ?_⟩⟩⟩⟩
  rw [if_pos rfl]
  refine ⟨_, by rw [decide_eq_false h0]; rfl, ?_⟩
  simp only [cx_K, decide_true, decide_false, reduceCtorEq, gTp, gCons, gNil, ca_0, ca_1, ca_2, ca_3, ca_4, ca_5, ca_6, ca_7, ca_8, ca_9, ca_10, ca_11, ca_12, ca_13, ca_14, ca_15, ca_16, ca_17, ca_18, ca_19, ca_20, ca_21, ca_22, ca_23, ca_24, ca_25, ca_26, ca_27, ca_28, ca_29, ca_30, not_true_eq_false, not_false_eq_true, Int.reduceEq, Nat.reduceEqDiff, Nat.reduceLeDiff, rGcd, V.ty.injEq, eq_self, List.not_mem_nil, beq_self_eq_true, HO.lst.injEq, HO.tup.injEq, tFor_eq, iRng1, iList, iTup, nat10, tSeq, rIxA, rSetA, rIsN, rIsT, tTp, tLs, itsO_tup, itsO_lst, tyO_tup, tyO_lst, tyO_dK, tyN_non, tyN_bl, tyN_int, tyN_str, tyN_ref, tyNs_lt, isB, upd_same, upd_upd, sizeLine_eq, List.mem_cons, String.reduceBEq, String.reduceEq, Bool.or_false, Bool.or_true, Bool.and_false, Bool.false_or, Bool.and_self, Bool.false_and, Bool.not_false, Bool.not_true, List.any_cons, List.any_nil, atI_0, setI_0, atI_1, setI_1, atI_2, setI_2, atI_3, setI_3, atI_4, setI_4, atI_5, setI_5, atI_6, setI_6, tAsg, gName, tOp, tUn, tVar, tC, tCons, L2.tNil, tRet, tIfS, tTest, tCB, tCall, rI, rI0, rU, tNext, tB, tAnd, tOr, tNot, tAndV, tOrV, tNotV, tDrop, tIf, tPar, gSub, rIxL, rIxT, rEq, rNe, rSetL, tBits,
    L2.start, List.map_cons, List.map_nil, List.cons_append, List.nil_append, List.append_nil, List.length_cons, List.length_nil, List.replicate, Nat.reduceAdd, Nat.reduceSub, Nat.zero_add, List.getElem?_cons_zero, List.getElem?_cons_succ, List.set_cons_zero, List.set_cons_succ,
    Option.some.injEq, exists_eq_left', exists_eq_left, V.int.injEq, V.bl.injEq, V.ref.injEq, V.str.injEq, List.cons.injEq, reduceCtorEq, and_true, true_and, false_and, and_false, exists_false, or_false, false_or, or_true, true_or, exists_const, CMul, CDiv, CPow, and_assoc, exists_and_left, exists_and_right, Int.reducePow, Int.reduceNeg, Int.reduceLT, Int.reduceLE, Nat.reducePow, Nat.reduceLT, Int.reduceToNat, gt_iff_lt, ge_iff_le, decide_eq_true_eq, Bool.not_eq_true', decide_eq_false_iff_not, scal, ↓reduceIte, Bool.false_eq_true]
  have k := gcdX (n := n) h0 hz
  have v := is_fdiv (t := n) h0
  refine ite2 (fun h => ?_) (fun h => ?_)
  · rw [if_pos h] at v
    simp only [if_pos h] at k
    exact ⟨k _, k _, fun p hp kp => (q _ v).new hp kp⟩
  · rw [if_neg h] at v
    simp only [if_neg h] at k
    exact ⟨k _, k _, fun p hp kp => (q _ v).new hp kp⟩
def frOk (K : PySem.W.Frag) (H : Hp) : V → Bool
  | .ref a => match ob K H a with
    | some (.tup [.int n, .int d]) => decide (1 ≤ d) && decide (Int.gcd n d = 1)
    | _ => false
  | _ => false
theorem frOk_fr {H : Hp} {a : Addr} {q : Qt} (h : ob K H a = some (frt q)) (hn : Nf q) : frOk K H (.ref a) = true := by
  simp only [frOk, h, frt]
  show (decide (1 ≤ q.2) && decide (Int.gcd q.1 q.2 = 1)) = true
  rw [decide_eq_true hn.1, decide_eq_true hn.2]
  rfl
/-- v and, if it is a tuple, its items are of known kinds -/
def Tyd (K : PySem.W.Frag) (H : Hp) (v : V) : Prop := (tyN K H v).isSome ∧ ∀ a xs, v = .ref a → ob K H a = some (.tup xs) → ∀ x ∈ xs, (tyN K H x).isSome
theorem Tyd.fr {H : Hp} {a : Addr} {q : Qt} (h : ob K H a = some (frt q)) : Tyd K H (.ref a) := by
  refine ⟨by rw [tyN_ref, h]; rfl, fun b xs e hx x hm => ?_⟩
  cases e
  rw [h] at hx
  cases hx
  simp only [List.mem_cons, List.not_mem_nil, or_false] at hm
  rcases hm with rfl | rfl <;> rfl
theorem tyN_tuple {H : Hp} {v : V} (h : tyN K H v = some "tuple") : ∃ a xs, v = .ref a ∧ ob K H a = some (.tup xs) := by
  cases v with
  | ref a =>
    have h1 : tyO (ob K H a) = some "tuple" := h
    unfold tyO at h1
    split at h1 <;> first | exact ⟨a, _, rfl, by assumption⟩ | (exfalso; revert h1; decide)
  | _ => exfalso; revert h; simp only [tyN]; decide
def spIsFraction (K : PySem.W.Frag) : Sp := fun vs H Q _ => ∃ v, vs = [v] ∧ Tyd K H v ∧ Q (.bl (frOk K H v)) H
abbrev sIsFraction : Stmt := topS 19
theorem scIsFraction : FnScope ["value", "numerator", "denominator"] ["value"] (defScope sIsFraction) := ⟨rfl, rfl, rfl, by decide +kernel, rfl, by decide +kernel, by decide +kernel⟩
theorem k_IsFraction (T : Bt K mg) (D : Dfn K mg "is_fraction" sIsFraction ["value"]) (d_is_whole : Kn P w K mg base 1 "is_whole" ["value"] (spWhole K)) : Kn P w K mg base 2 "is_fraction" ["value"] (spIsFraction K) := by
  refine Kn.mk' D scIsFraction (fun vs H Q E h => ?_) (fun f cdv A outer s H vs Q E hr h => ?_)
  · obtain ⟨v, rfl, _⟩ := h
    rfl
  obtain ⟨v, rfl, hv, q⟩ := h
  refine ⟨_, (pss_cons (ps_if (PW.pt (pw_or (pt_not (pt_val (pe_callB call_isN (by rfl) T.b_isinstance (by decide +kernel) (pa_cons (pv 0) (pa_cons (pe_bltn (v := .ty "tuple") (by rfl) T.b_tuple (by decide +kernel) rfl) pa_nil))))) (pw_or1 (pt_cmpR op_ne (pe_callB call_lenA (by rfl) T.b_len PySem.boot_len (pa_cons (pv 0) pa_nil)) pe_int (nomark _))))) (pss_one (ps_ret pe_bl)) pss_nil)
      (pss_cons (ps_asg (pv 0) (pg_tp 2 (by rfl) (pgs_cons (pg_name (i := 1) scIsFraction.nd rfl (.inl rfl)) (pgs_cons (pg_name (i := 2) scIsFraction.nd rfl (.inl rfl)) pgs_nil))))
      (pss_cons (ps_if (PW.pt (pw_or (pt_not (pt_val (pe_kn d_is_whole hr (by rfl) (pa_cons (pv 1) pa_nil)))) (pw_or1 (pt_not (pt_val (pe_kn d_is_whole hr (by rfl) (pa_cons (pv 2) pa_nil))))))) (pss_one (ps_ret pe_bl)) pss_nil)
      (pss_one (ps_ret (pe_and (pe_cmpR op_ge (pv 2) pe_int (nomark _)) (pe_one (pe_cmpR op_eq (pe_callBfun cr_gcd (by rfl) T.g_gcd (pa_cons (pv 1) (pa_cons (pv 2) pa_nil))) pe_int (nomark _))))))))), ?_⟩
  obtain ⟨t, ht⟩ := Option.isSome_iff_exists.mp hv.1
  by_cases e : t = "tuple"
  · subst e
    obtain ⟨a, xs, rfl, ha⟩ := tyN_tuple ht
    have hx := hv.2 a xs rfl ha
    match xs, ha, hx with
    | [], ha, hx =>
      have e : frOk K H (.ref a) = false := by simp only [frOk, ha]
      rw [e] at q
      simp only [ha, cx_K, decide_true, decide_false, reduceCtorEq, gTp, gCons, gNil, ca_0, ca_1, ca_2, ca_3, ca_4, ca_5, ca_6, ca_7, ca_8, ca_9, ca_10, ca_11, ca_12, ca_13, ca_14, ca_15, ca_16, ca_17, ca_18, ca_19, ca_20, ca_21, ca_22, ca_23, ca_24, ca_25, ca_26, ca_27, ca_28, ca_29, ca_30, not_true_eq_false, not_false_eq_true, Int.reduceEq, Nat.reduceEqDiff, Nat.reduceLeDiff, rGcd, V.ty.injEq, eq_self, List.not_mem_nil, beq_self_eq_true, HO.lst.injEq, HO.tup.injEq, tFor_eq, iRng1, iList, iTup, nat10, tSeq, rIxA, rSetA, rIsN, rIsT, tTp, tLs, itsO_tup, itsO_lst, tyO_tup, tyO_lst, tyO_dK, tyN_non, tyN_bl, tyN_int, tyN_str, tyN_ref, tyNs_lt, isB, upd_same, upd_upd, sizeLine_eq, List.mem_cons, String.reduceBEq, String.reduceEq, Bool.or_false, Bool.or_true, Bool.and_false, Bool.false_or, Bool.and_self, Bool.false_and, Bool.not_false, Bool.not_true, List.any_cons, List.any_nil, atI_0, setI_0, atI_1, setI_1, atI_2, setI_2, atI_3, setI_3, atI_4, setI_4, atI_5, setI_5, atI_6, setI_6, tAsg, gName, tOp, tUn, tVar, tC, tCons, L2.tNil, tRet, tIfS, tTest, tCB, tCall, rI, rI0, rU, tNext, tB, tAnd, tOr, tNot, tAndV, tOrV, tNotV, tDrop, tIf, tPar, gSub, rIxL, rIxT, rEq, rNe, rSetL, tBits,
    L2.start, List.map_cons, List.map_nil, List.cons_append, List.nil_append, List.append_nil, List.length_cons, List.length_nil, List.replicate, Nat.reduceAdd, Nat.reduceSub, Nat.zero_add, List.getElem?_cons_zero, List.getElem?_cons_succ, List.set_cons_zero, List.set_cons_succ,
    Option.some.injEq, exists_eq_left', exists_eq_left, V.int.injEq, V.bl.injEq, V.ref.injEq, V.str.injEq, List.cons.injEq, reduceCtorEq, and_true, true_and, false_and, and_false, exists_false, or_false, false_or, or_true, true_or, exists_const, CMul, CDiv, CPow, and_assoc, exists_and_left, exists_and_right, Int.reducePow, Int.reduceNeg, Int.reduceLT, Int.reduceLE, Nat.reducePow, Nat.reduceLT, Int.reduceToNat, gt_iff_lt, ge_iff_le, decide_eq_true_eq, Bool.not_eq_true', decide_eq_false_iff_not, scal, ↓reduceIte, Bool.false_eq_true]
      exact q
    | [x], ha, hx =>
      have e : frOk K H (.ref a) = false := by simp only [frOk, ha]
      rw [e] at q
      simp only [ha, cx_K, decide_true, decide_false, reduceCtorEq, gTp, gCons, gNil, ca_0, ca_1, ca_2, ca_3, ca_4, ca_5, ca_6, ca_7, ca_8, ca_9, ca_10, ca_11, ca_12, ca_13, ca_14, ca_15, ca_16, ca_17, ca_18, ca_19, ca_20, ca_21, ca_22, ca_23, ca_24, ca_25, ca_26, ca_27, ca_28, ca_29, ca_30, not_true_eq_false, not_false_eq_true, Int.reduceEq, Nat.reduceEqDiff, Nat.reduceLeDiff, rGcd, V.ty.injEq, eq_self, List.not_mem_nil, beq_self_eq_true, HO.lst.injEq, HO.tup.injEq, tFor_eq, iRng1, iList, iTup, nat10, tSeq, rIxA, rSetA, rIsN, rIsT, tTp, tLs, itsO_tup, itsO_lst, tyO_tup, tyO_lst, tyO_dK, tyN_non, tyN_bl, tyN_int, tyN_str, tyN_ref, tyNs_lt, isB, upd_same, upd_upd, sizeLine_eq, List.mem_cons, String.reduceBEq, String.reduceEq, Bool.or_false, Bool.or_true, Bool.and_false, Bool.false_or, Bool.and_self, Bool.false_and, Bool.not_false, Bool.not_true, List.any_cons, List.any_nil, atI_0, setI_0, atI_1, setI_1, atI_2, setI_2, atI_3, setI_3, atI_4, setI_4, atI_5, setI_5, atI_6, setI_6, tAsg, gName, tOp, tUn, tVar, tC, tCons, L2.tNil, tRet, tIfS, tTest, tCB, tCall, rI, rI0, rU, tNext, tB, tAnd, tOr, tNot, tAndV, tOrV, tNotV, tDrop, tIf, tPar, gSub, rIxL, rIxT, rEq, rNe, rSetL, tBits,
    L2.start, List.map_cons, List.map_nil, List.cons_append, List.nil_append, List.append_nil, List.length_cons, List.length_nil, List.replicate, Nat.reduceAdd, Nat.reduceSub, Nat.zero_add, List.getElem?_cons_zero, List.getElem?_cons_succ, List.set_cons_zero, List.set_cons_succ,
    Option.some.injEq, exists_eq_left', exists_eq_left, V.int.injEq, V.bl.injEq, V.ref.injEq, V.str.injEq, List.cons.injEq, reduceCtorEq, and_true, true_and, false_and, and_false, exists_false, or_false, false_or, or_true, true_or, exists_const, CMul, CDiv, CPow, and_assoc, exists_and_left, exists_and_right, Int.reducePow, Int.reduceNeg, Int.reduceLT, Int.reduceLE, Nat.reducePow, Nat.reduceLT, Int.reduceToNat, gt_iff_lt, ge_iff_le, decide_eq_true_eq, Bool.not_eq_true', decide_eq_false_iff_not, scal, ↓reduceIte, Bool.false_eq_true]
      exact q
    | [x, y], ha, hx =>
      have hx1 := hx x (by simp)
      have hx2 := hx y (by simp)
      simp only [ha, cx_K, decide_true, decide_false, reduceCtorEq, gTp, gCons, gNil, ca_0, ca_1, ca_2, ca_3, ca_4, ca_5, ca_6, ca_7, ca_8, ca_9, ca_10, ca_11, ca_12, ca_13, ca_14, ca_15, ca_16, ca_17, ca_18, ca_19, ca_20, ca_21, ca_22, ca_23, ca_24, ca_25, ca_26, ca_27, ca_28, ca_29, ca_30, not_true_eq_false, not_false_eq_true, Int.reduceEq, Nat.reduceEqDiff, Nat.reduceLeDiff, rGcd, V.ty.injEq, eq_self, List.not_mem_nil, beq_self_eq_true, HO.lst.injEq, HO.tup.injEq, tFor_eq, iRng1, iList, iTup, nat10, tSeq, rIxA, rSetA, rIsN, rIsT, tTp, tLs, itsO_tup, itsO_lst, tyO_tup, tyO_lst, tyO_dK, tyN_non, tyN_bl, tyN_int, tyN_str, tyN_ref, tyNs_lt, isB, upd_same, upd_upd, sizeLine_eq, List.mem_cons, String.reduceBEq, String.reduceEq, Bool.or_false, Bool.or_true, Bool.and_false, Bool.false_or, Bool.and_self, Bool.false_and, Bool.not_false, Bool.not_true, List.any_cons, List.any_nil, atI_0, setI_0, atI_1, setI_1, atI_2, setI_2, atI_3, setI_3, atI_4, setI_4, atI_5, setI_5, atI_6, setI_6, tAsg, gName, tOp, tUn, tVar, tC, tCons, L2.tNil, tRet, tIfS, tTest, tCB, tCall, rI, rI0, rU, tNext, tB, tAnd, tOr, tNot, tAndV, tOrV, tNotV, tDrop, tIf, tPar, gSub, rIxL, rIxT, rEq, rNe, rSetL, tBits,
    L2.start, List.map_cons, List.map_nil, List.cons_append, List.nil_append, List.append_nil, List.length_cons, List.length_nil, List.replicate, Nat.reduceAdd, Nat.reduceSub, Nat.zero_add, List.getElem?_cons_zero, List.getElem?_cons_succ, List.set_cons_zero, List.set_cons_succ,
    Option.some.injEq, exists_eq_left', exists_eq_left, V.int.injEq, V.bl.injEq, V.ref.injEq, V.str.injEq, List.cons.injEq, reduceCtorEq, and_true, true_and, false_and, and_false, exists_false, or_false, false_or, or_true, true_or, exists_const, CMul, CDiv, CPow, and_assoc, exists_and_left, exists_and_right, Int.reducePow, Int.reduceNeg, Int.reduceLT, Int.reduceLE, Nat.reducePow, Nat.reduceLT, Int.reduceToNat, gt_iff_lt, ge_iff_le, decide_eq_true_eq, Bool.not_eq_true', decide_eq_false_iff_not, scal, ↓reduceIte, Bool.false_eq_true]
      refine ⟨_, rfl, hx1, ?_⟩
      cases x with
      | int n =>
        refine ⟨true, rfl, ?_⟩
        rw [if_neg Bool.noConfusion]
        refine ⟨_, rfl, hx2, ?_⟩
        cases y with
        | int d =>
          refine ⟨true, rfl, ?_⟩
          rw [if_neg Bool.noConfusion]
          simp only [ha, cx_K, decide_true, decide_false, reduceCtorEq, gTp, gCons, gNil, ca_0, ca_1, ca_2, ca_3, ca_4, ca_5, ca_6, ca_7, ca_8, ca_9, ca_10, ca_11, ca_12, ca_13, ca_14, ca_15, ca_16, ca_17, ca_18, ca_19, ca_20, ca_21, ca_22, ca_23, ca_24, ca_25, ca_26, ca_27, ca_28, ca_29, ca_30, not_true_eq_false, not_false_eq_true, Int.reduceEq, Nat.reduceEqDiff, Nat.reduceLeDiff, rGcd, V.ty.injEq, eq_self, List.not_mem_nil, beq_self_eq_true, HO.lst.injEq, HO.tup.injEq, tFor_eq, iRng1, iList, iTup, nat10, tSeq, rIxA, rSetA, rIsN, rIsT, tTp, tLs, itsO_tup, itsO_lst, tyO_tup, tyO_lst, tyO_dK, tyN_non, tyN_bl, tyN_int, tyN_str, tyN_ref, tyNs_lt, isB, upd_same, upd_upd, sizeLine_eq, List.mem_cons, String.reduceBEq, String.reduceEq, Bool.or_false, Bool.or_true, Bool.and_false, Bool.false_or, Bool.and_self, Bool.false_and, Bool.not_false, Bool.not_true, List.any_cons, List.any_nil, atI_0, setI_0, atI_1, setI_1, atI_2, setI_2, atI_3, setI_3, atI_4, setI_4, atI_5, setI_5, atI_6, setI_6, tAsg, gName, tOp, tUn, tVar, tC, tCons, L2.tNil, tRet, tIfS, tTest, tCB, tCall, rI, rI0, rU, tNext, tB, tAnd, tOr, tNot, tAndV, tOrV, tNotV, tDrop, tIf, tPar, gSub, rIxL, rIxT, rEq, rNe, rSetL, tBits,
    L2.start, List.map_cons, List.map_nil, List.cons_append, List.nil_append, List.append_nil, List.length_cons, List.length_nil, List.replicate, Nat.reduceAdd, Nat.reduceSub, Nat.zero_add, List.getElem?_cons_zero, List.getElem?_cons_succ, List.set_cons_zero, List.set_cons_succ,
    Option.some.injEq, exists_eq_left', exists_eq_left, V.int.injEq, V.bl.injEq, V.ref.injEq, V.str.injEq, List.cons.injEq, reduceCtorEq, and_true, true_and, false_and, and_false, exists_false, or_false, false_or, or_true, true_or, exists_const, CMul, CDiv, CPow, and_assoc, exists_and_left, exists_and_right, Int.reducePow, Int.reduceNeg, Int.reduceLT, Int.reduceLE, Nat.reducePow, Nat.reduceLT, Int.reduceToNat, gt_iff_lt, ge_iff_le, decide_eq_true_eq, Bool.not_eq_true', decide_eq_false_iff_not, scal, ↓reduceIte, Bool.false_eq_true]
          refine ite2 (fun h => ?_) (fun h => ?_)
          · have e : frOk K H (.ref a) = decide (((n.natAbs.gcd d.natAbs : Nat) : Int) = 1) := by
              simp only [frOk, ha]
              rw [decide_eq_true h, Bool.true_and]
              show decide (Nat.gcd n.natAbs d.natAbs = 1) = _
              exact decide_eq_decide.mpr (by omega)
            rw [e] at q
            exact q
          · have e : frOk K H (.ref a) = false := by
              simp only [frOk, ha]
              rw [decide_eq_false h, Bool.false_and]
            rw [e] at q
            exact q
        | _ =>
          refine ⟨false, rfl, ?_⟩
          rw [if_pos rfl]
          have e : frOk K H (.ref a) = false := by simp only [frOk, ha]
          rw [e] at q
          exact q
      | _ =>
        refine ⟨false, rfl, ?_⟩
        rw [if_pos rfl]
        have e : frOk K H (.ref a) = false := by simp only [frOk, ha]
        rw [e] at q
        exact q
    | x :: y :: z :: r, ha, hx =>
      have e : frOk K H (.ref a) = false := by simp only [frOk, ha]
      rw [e] at q
      simp only [ha, cx_K, decide_true, decide_false, reduceCtorEq, gTp, gCons, gNil, ca_0, ca_1, ca_2, ca_3, ca_4, ca_5, ca_6, ca_7, ca_8, ca_9, ca_10, ca_11, ca_12, ca_13, ca_14, ca_15, ca_16, ca_17, ca_18, ca_19, ca_20, ca_21, ca_22, ca_23, ca_24, ca_25, ca_26, ca_27, ca_28, ca_29, ca_30, not_true_eq_false, not_false_eq_true, Int.reduceEq, Nat.reduceEqDiff, Nat.reduceLeDiff, rGcd, V.ty.injEq, eq_self, List.not_mem_nil, beq_self_eq_true, HO.lst.injEq, HO.tup.injEq, tFor_eq, iRng1, iList, iTup, nat10, tSeq, rIxA, rSetA, rIsN, rIsT, tTp, tLs, itsO_tup, itsO_lst, tyO_tup, tyO_lst, tyO_dK, tyN_non, tyN_bl, tyN_int, tyN_str, tyN_ref, tyNs_lt, isB, upd_same, upd_upd, sizeLine_eq, List.mem_cons, String.reduceBEq, String.reduceEq, Bool.or_false, Bool.or_true, Bool.and_false, Bool.false_or, Bool.and_self, Bool.false_and, Bool.not_false, Bool.not_true, List.any_cons, List.any_nil, atI_0, setI_0, atI_1, setI_1, atI_2, setI_2, atI_3, setI_3, atI_4, setI_4, atI_5, setI_5, atI_6, setI_6, tAsg, gName, tOp, tUn, tVar, tC, tCons, L2.tNil, tRet, tIfS, tTest, tCB, tCall, rI, rI0, rU, tNext, tB, tAnd, tOr, tNot, tAndV, tOrV, tNotV, tDrop, tIf, tPar, gSub, rIxL, rIxT, rEq, rNe, rSetL, tBits,
    L2.start, List.map_cons, List.map_nil, List.cons_append, List.nil_append, List.append_nil, List.length_cons, List.length_nil, List.replicate, Nat.reduceAdd, Nat.reduceSub, Nat.zero_add, List.getElem?_cons_zero, List.getElem?_cons_succ, List.set_cons_zero, List.set_cons_succ,
    Option.some.injEq, exists_eq_left', exists_eq_left, V.int.injEq, V.bl.injEq, V.ref.injEq, V.str.injEq, List.cons.injEq, reduceCtorEq, and_true, true_and, false_and, and_false, exists_false, or_false, false_or, or_true, true_or, exists_const, CMul, CDiv, CPow, and_assoc, exists_and_left, exists_and_right, Int.reducePow, Int.reduceNeg, Int.reduceLT, Int.reduceLE, Nat.reducePow, Nat.reduceLT, Int.reduceToNat, gt_iff_lt, ge_iff_le, decide_eq_true_eq, Bool.not_eq_true', decide_eq_false_iff_not, scal, ↓reduceIte, Bool.false_eq_true]
      refine ite2 (fun h => q) (fun h => ?_)
      exfalso
      omega
  · have e1 : frOk K H v = false := by
      cases v with
      | ref a =>
        have h1 : tyO (ob K H a) = some t := ht
        cases hz : ob K H a with
        | none => simp only [frOk, hz]
        | some z =>
          cases z with
          | tup xs =>
            rw [hz] at h1
            exact absurd (Option.some.inj h1).symm e
          | _ => simp only [frOk, hz]
      | _ => rfl
    rw [e1] at q
    have mt := tyN_mem ht
    simp only [List.mem_cons, List.not_mem_nil, or_false] at mt
    rcases mt with rfl | rfl | rfl | rfl | rfl | rfl | rfl <;> first | exact absurd rfl e | (simp only [ht, cx_K, decide_true, decide_false, reduceCtorEq, gTp, gCons, gNil, ca_0, ca_1, ca_2, ca_3, ca_4, ca_5, ca_6, ca_7, ca_8, ca_9, ca_10, ca_11, ca_12, ca_13, ca_14, ca_15, ca_16, ca_17, ca_18, ca_19, ca_20, ca_21, ca_22, ca_23, ca_24, ca_25, ca_26, ca_27, ca_28, ca_29, ca_30, not_true_eq_false, not_false_eq_true, Int.reduceEq, Nat.reduceEqDiff, Nat.reduceLeDiff, rGcd, V.ty.injEq, eq_self, List.not_mem_nil, beq_self_eq_true, HO.lst.injEq, HO.tup.injEq, tFor_eq, iRng1, iList, iTup, nat10, tSeq, rIxA, rSetA, rIsN, rIsT, tTp, tLs, itsO_tup, itsO_lst, tyO_tup, tyO_lst, tyO_dK, tyN_non, tyN_bl, tyN_int, tyN_str, tyN_ref, tyNs_lt, isB, upd_same, upd_upd, sizeLine_eq, List.mem_cons, String.reduceBEq, String.reduceEq, Bool.or_false, Bool.or_true, Bool.and_false, Bool.false_or, Bool.and_self, Bool.false_and, Bool.not_false, Bool.not_true, List.any_cons, List.any_nil, atI_0, setI_0, atI_1, setI_1, atI_2, setI_2, atI_3, setI_3, atI_4, setI_4, atI_5, setI_5, atI_6, setI_6, tAsg, gName, tOp, tUn, tVar, tC, tCons, L2.tNil, tRet, tIfS, tTest, tCB, tCall, rI, rI0, rU, tNext, tB, tAnd, tOr, tNot, tAndV, tOrV, tNotV, tDrop, tIf, tPar, gSub, rIxL, rIxT, rEq, rNe, rSetL, tBits,
    L2.start, List.map_cons, List.map_nil, List.cons_append, List.nil_append, List.append_nil, List.length_cons, List.length_nil, List.replicate, Nat.reduceAdd, Nat.reduceSub, Nat.zero_add, List.getElem?_cons_zero, List.getElem?_cons_succ, List.set_cons_zero, List.set_cons_succ,
    Option.some.injEq, exists_eq_left', exists_eq_left, V.int.injEq, V.bl.injEq, V.ref.injEq, V.str.injEq, List.cons.injEq, reduceCtorEq, and_true, true_and, false_and, and_false, exists_false, or_false, false_or, or_true, true_or, exists_const, CMul, CDiv, CPow, and_assoc, exists_and_left, exists_and_right, Int.reducePow, Int.reduceNeg, Int.reduceLT, Int.reduceLE, Nat.reducePow, Nat.reduceLT, Int.reduceToNat, gt_iff_lt, ge_iff_le, decide_eq_true_eq, Bool.not_eq_true', decide_eq_false_iff_not, scal, ↓reduceIte, Bool.false_eq_true]; exact q)
end
end My

namespace My
open PySem PySem.Spec PyProof.Rows L2
section
variable {P : Program} {w : World} {K : PySem.W.Frag} {mg : Str → Option Value} {base : Heap}
theorem nf_part {q : Qt} (h : Nf q) : Nf (q.1 % q.2, q.2) := by
  refine ⟨h.1, ?_⟩
  show Int.gcd (q.1 % q.2) q.2 = 1
  have e : q.1 % q.2 = q.1 + (-(q.1 / q.2)) * q.2 := by
    have := Int.emod_add_mul_ediv q.1 q.2
    rw [Int.neg_mul, Int.mul_comm]
    omega
  rw [e, Int.gcd_add_mul_right_left]
  exact h.2
theorem nf_abs {q : Qt} (h : Nf q) : Nf ((q.1.natAbs : Int), q.2) := ⟨h.1, by
  show Int.gcd (q.1.natAbs : Int) q.2 = 1
  rw [← h.2]
  rfl⟩
theorem nf_neg {q : Qt} (h : Nf q) : Nf (-q.1, q.2) := ⟨h.1, by
  show Int.gcd (-q.1) q.2 = 1
  rw [Int.neg_gcd]
  exact h.2⟩
def off (q : Qt) : Qt := (if q.2 < 2 * (q.1 % q.2) then q.1 % q.2 - q.2 else q.1 % q.2, q.2)
theorem nf_off {q : Qt} (h : Nf q) : Nf (off q) := by
  have k := nf_part h
  unfold off
  split
  · refine ⟨h.1, ?_⟩
    show Int.gcd (q.1 % q.2 - q.2) q.2 = 1
    rw [show q.1 % q.2 - q.2 = q.1 % q.2 + (-1) * q.2 by omega, Int.gcd_add_mul_right_left]
    exact k.2
  · exact k
theorem is_self {q : Qt} (h : Nf q) : Is q q.1 q.2 := ⟨h, rfl⟩
def sum2 (p q : Qt) (z : Qt) : Prop := Is z (p.1 * q.2 + q.1 * p.2) (p.2 * q.2)
theorem Nf.ne {q : Qt} (h : Nf q) : q.2 ≠ 0 := by have := h.1; omega
theorem mul_ne {a b : Int} (h1 : 1 ≤ a) (h2 : 1 ≤ b) : a * b ≠ 0 := Int.mul_ne_zero (by omega) (by omega)
theorem szPart {q : Qt} {k : Nat} (h : Nf q) (hz : Sz k q) : Sz k (q.1 % q.2, q.2) := by
  refine ⟨?_, hz.2⟩
  have h1 := Int.emod_nonneg q.1 h.ne
  have h2 := Int.emod_lt_of_pos q.1 (show 0 < q.2 by have := h.1; omega)
  have := hz.2
  show (q.1 % q.2).natAbs < 2 ^ k
  omega
theorem szOff {q : Qt} {k : Nat} (h : Nf q) (hz : Sz k q) : Sz k (off q) := by
  have h1 := Int.emod_nonneg q.1 h.ne
  have h2 := Int.emod_lt_of_pos q.1 (show 0 < q.2 by have := h.1; omega)
  have h3 := hz.2
  have h4 := h.1
  unfold off
  refine ⟨?_, h3⟩
  show (if q.2 < 2 * (q.1 % q.2) then q.1 % q.2 - q.2 else q.1 % q.2).natAbs < 2 ^ k
  split <;> omega
/-- a fraction at a, in lowest terms, of a bounded size -/
structure Fq (K : PySem.W.Frag) (H : Hp) (k : Nat) (a : Addr) (q : Qt) : Prop where
  o : ob K H a = some (.tup [.int q.1, .int q.2])
  nf : Nf q
  sz : Sz k q
theorem Fq.same {H H' : Hp} {k : Nat} {a : Addr} {q : Qt} (h : Fq K H k a q) (s : Same H H') : Fq K H' k a q := ⟨ob_same s h.o, h.nf, h.sz⟩
theorem Fq.kp {H H' : Hp} {k : Nat} {a s : Addr} {q : Qt} {ys : List V} (h : Fq K H k a q) (e : Kp s H H') (hs : H s = some (.lst ys)) : Fq K H' k a q := ⟨ob_kp e hs (fun _ z => by cases z) h.o, h.nf, h.sz⟩
theorem Fq.mono {H : Hp} {j k : Nat} {a : Addr} {q : Qt} (h : Fq K H j a q) (l : j ≤ k) : Fq K H k a q := ⟨h.o, h.nf, h.sz.mono l⟩
def spBin (K : PySem.W.Frag) (R : Qt → Qt → Qt → Prop) : Sp := fun vs H Q _ => ∃ (a b : Addr) (p q : Qt), vs = [.ref a, .ref b] ∧ Fq K H 3000 a p ∧ Fq K H 3000 b q ∧ ∀ z, R p q z → Gv K H Q z
def spUn (K : PySem.W.Frag) (g : Qt → Qt) : Sp := fun vs H Q _ => ∃ (a : Addr) (q : Qt), vs = [.ref a] ∧ Fq K H 8000 a q ∧ Gv K H Q (g q)
def spFloor (K : PySem.W.Frag) : Sp := fun vs H Q _ => ∃ (a : Addr) (q : Qt), vs = [.ref a] ∧ Fq K H 8000 a q ∧ Q (.int (q.1 / q.2)) H
abbrev sPlus : Stmt := topS 20
theorem scPlus : FnScope ["left", "right"] ["left", "right"] (defScope sPlus) := ⟨rfl, rfl, rfl, by decide +kernel, rfl, by decide +kernel, by decide +kernel⟩
theorem k_Plus (T : Bt K mg) (D : Dfn K mg "plus" sPlus ["left", "right"]) (d_require : Kn P w K mg base 1 "require" ["well_formed", "what"] spRequire) (d_is_fraction : Kn P w K mg base 2 "is_fraction" ["value"] (spIsFraction K)) (d_fraction : Kn P w K mg base 2 "fraction" ["numerator", "denominator"] (spFraction K)) : Kn P w K mg base 3 "plus" ["left", "right"] (spBin K sum2) := by
  refine Kn.mk' D scPlus (fun vs H Q E h => ?_) (fun f cdv A outer s H vs Q E hr h => ?_)
  · obtain ⟨a, b, p, q, rfl, _⟩ := h
    rfl
  obtain ⟨a, b, p, q, rfl, hp, hq, k⟩ := h
  refine ⟨_, (pss_cons (ps_expr (pe_kn d_require hr (by rfl) (pa_cons (pe_kn d_is_fraction hr (by rfl) (pa_cons (pv 0) pa_nil)) (pa_cons pe_str pa_nil))))
      (pss_cons (ps_expr (pe_kn d_require hr (by rfl) (pa_cons (pe_kn d_is_fraction hr (by rfl) (pa_cons (pv 1) pa_nil)) (pa_cons pe_str pa_nil))))
      (pss_one (ps_ret (pe_kn d_fraction hr (by rfl) (pa_cons (pe_op op_add (pe_op op_mulW (pe_ix ix_any (pv 0) pe_int (fun _ _ => rfl)) (pe_ix ix_any (pv 1) pe_int (fun _ _ => rfl))) (pe_op op_mulW (pe_ix ix_any (pv 1) pe_int (fun _ _ => rfl)) (pe_ix ix_any (pv 0) pe_int (fun _ _ => rfl)))) (pa_cons (pe_op op_mulW (pe_ix ix_any (pv 0) pe_int (fun _ _ => rfl)) (pe_ix ix_any (pv 1) pe_int (fun _ _ => rfl))) pa_nil))))))), ?_⟩
  simp only [cx_K, decide_true, decide_false, reduceCtorEq, gTp, gCons, gNil, ca_0, ca_1, ca_2, ca_3, ca_4, ca_5, ca_6, ca_7, ca_8, ca_9, ca_10, ca_11, ca_12, ca_13, ca_14, ca_15, ca_16, ca_17, ca_18, ca_19, ca_20, ca_21, ca_22, ca_23, ca_24, ca_25, ca_26, ca_27, ca_28, ca_29, ca_30, not_true_eq_false, not_false_eq_true, Int.reduceEq, Nat.reduceEqDiff, Nat.reduceLeDiff, rGcd, V.ty.injEq, eq_self, List.not_mem_nil, beq_self_eq_true, HO.lst.injEq, HO.tup.injEq, tFor_eq, iRng1, iList, iTup, nat10, tSeq, rIxA, rSetA, rIsN, rIsT, tTp, tLs, itsO_tup, itsO_lst, tyO_tup, tyO_lst, tyO_dK, tyN_non, tyN_bl, tyN_int, tyN_str, tyN_ref, tyNs_lt, isB, upd_same, upd_upd, sizeLine_eq, List.mem_cons, String.reduceBEq, String.reduceEq, Bool.or_false, Bool.or_true, Bool.and_false, Bool.false_or, Bool.and_self, Bool.false_and, Bool.not_false, Bool.not_true, List.any_cons, List.any_nil, atI_0, setI_0, atI_1, setI_1, atI_2, setI_2, atI_3, setI_3, atI_4, setI_4, atI_5, setI_5, atI_6, setI_6, tAsg, gName, tOp, tUn, tVar, tC, tCons, L2.tNil, tRet, tIfS, tTest, tCB, tCall, rI, rI0, rU, tNext, tB, tAnd, tOr, tNot, tAndV, tOrV, tNotV, tDrop, tIf, tPar, gSub, rIxL, rIxT, rEq, rNe, rSetL, tBits,
    L2.start, List.map_cons, List.map_nil, List.cons_append, List.nil_append, List.append_nil, List.length_cons, List.length_nil, List.replicate, Nat.reduceAdd, Nat.reduceSub, Nat.zero_add, List.getElem?_cons_zero, List.getElem?_cons_succ, List.set_cons_zero, List.set_cons_succ,
    Option.some.injEq, exists_eq_left', exists_eq_left, V.int.injEq, V.bl.injEq, V.ref.injEq, V.str.injEq, List.cons.injEq, reduceCtorEq, and_true, true_and, false_and, and_false, exists_false, or_false, false_or, or_true, true_or, exists_const, CMul, CDiv, CPow, and_assoc, exists_and_left, exists_and_right, Int.reducePow, Int.reduceNeg, Int.reduceLT, Int.reduceLE, Nat.reducePow, Nat.reduceLT, Int.reduceToNat, gt_iff_lt, ge_iff_le, decide_eq_true_eq, Bool.not_eq_true', decide_eq_false_iff_not, scal, ↓reduceIte, Bool.false_eq_true]
  refine ⟨_, rfl, Tyd.fr hp.o, _, by rw [frOk_fr hp.o hp.nf], _, rfl, Tyd.fr hq.o, _, by rw [frOk_fr hq.o hq.nf], ?_⟩
  simp only [hp.o, hq.o, cx_K, decide_true, decide_false, reduceCtorEq, gTp, gCons, gNil, ca_0, ca_1, ca_2, ca_3, ca_4, ca_5, ca_6, ca_7, ca_8, ca_9, ca_10, ca_11, ca_12, ca_13, ca_14, ca_15, ca_16, ca_17, ca_18, ca_19, ca_20, ca_21, ca_22, ca_23, ca_24, ca_25, ca_26, ca_27, ca_28, ca_29, ca_30, not_true_eq_false, not_false_eq_true, Int.reduceEq, Nat.reduceEqDiff, Nat.reduceLeDiff, rGcd, V.ty.injEq, eq_self, List.not_mem_nil, beq_self_eq_true, HO.lst.injEq, HO.tup.injEq, tFor_eq, iRng1, iList, iTup, nat10, tSeq, rIxA, rSetA, rIsN, rIsT, tTp, tLs, itsO_tup, itsO_lst, tyO_tup, tyO_lst, tyO_dK, tyN_non, tyN_bl, tyN_int, tyN_str, tyN_ref, tyNs_lt, isB, upd_same, upd_upd, sizeLine_eq, List.mem_cons, String.reduceBEq, String.reduceEq, Bool.or_false, Bool.or_true, Bool.and_false, Bool.false_or, Bool.and_self, Bool.false_and, Bool.not_false, Bool.not_true, List.any_cons, List.any_nil, atI_0, setI_0, atI_1, setI_1, atI_2, setI_2, atI_3, setI_3, atI_4, setI_4, atI_5, setI_5, atI_6, setI_6, tAsg, gName, tOp, tUn, tVar, tC, tCons, L2.tNil, tRet, tIfS, tTest, tCB, tCall, rI, rI0, rU, tNext, tB, tAnd, tOr, tNot, tAndV, tOrV, tNotV, tDrop, tIf, tPar, gSub, rIxL, rIxT, rEq, rNe, rSetL, tBits,
    L2.start, List.map_cons, List.map_nil, List.cons_append, List.nil_append, List.append_nil, List.length_cons, List.length_nil, List.replicate, Nat.reduceAdd, Nat.reduceSub, Nat.zero_add, List.getElem?_cons_zero, List.getElem?_cons_succ, List.set_cons_zero, List.set_cons_succ,
    Option.some.injEq, exists_eq_left', exists_eq_left, V.int.injEq, V.bl.injEq, V.ref.injEq, V.str.injEq, List.cons.injEq, reduceCtorEq, and_true, true_and, false_and, and_false, exists_false, or_false, false_or, or_true, true_or, exists_const, CMul, CDiv, CPow, and_assoc, exists_and_left, exists_and_right, Int.reducePow, Int.reduceNeg, Int.reduceLT, Int.reduceLE, Nat.reducePow, Nat.reduceLT, Int.reduceToNat, gt_iff_lt, ge_iff_le, decide_eq_true_eq, Bool.not_eq_true', decide_eq_false_iff_not, scal, ↓reduceIte, Bool.false_eq_true]
  exact ⟨mulW hp.sz.1 hq.sz.2 (by omega), mulW hq.sz.1 hp.sz.2 (by omega), mulW hp.sz.2 hq.sz.2 (by omega), _, _, rfl, mul_ne hp.nf.1 hq.nf.1, szMono (szMul hp.sz.2 hq.sz.2) (by omega), k⟩
abbrev sLPlus : Stmt := topS 33
theorem scLPlus : FnScope ["_law_left", "_law_right"] ["_law_left", "_law_right"] (defScope sLPlus) := ⟨rfl, rfl, rfl, by decide +kernel, rfl, by decide +kernel, by decide +kernel⟩
theorem k_LPlus (T : Bt K mg) (D : Dfn K mg "_law_plus" sLPlus ["_law_left", "_law_right"]) (d__law_lowest : Kn P w K mg base 2 "_law_lowest" ["_law_top", "_law_bottom"] (spLowest K)) : Kn P w K mg base 3 "_law_plus" ["_law_left", "_law_right"] (spBin K sum2) := by
  refine Kn.mk' D scLPlus (fun vs H Q E h => ?_) (fun f cdv A outer s H vs Q E hr h => ?_)
  · obtain ⟨a, b, p, q, rfl, _⟩ := h
    rfl
  obtain ⟨a, b, p, q, rfl, hp, hq, k⟩ := h
  refine ⟨_, (pss_one (ps_ret (pe_kn d__law_lowest hr (by rfl) (pa_cons (pe_op op_add (pe_op op_mulW (pe_ix ix_any (pv 0) pe_int (fun _ _ => rfl)) (pe_ix ix_any (pv 1) pe_int (fun _ _ => rfl))) (pe_op op_mulW (pe_ix ix_any (pv 1) pe_int (fun _ _ => rfl)) (pe_ix ix_any (pv 0) pe_int (fun _ _ => rfl)))) (pa_cons (pe_op op_mulW (pe_ix ix_any (pv 0) pe_int (fun _ _ => rfl)) (pe_ix ix_any (pv 1) pe_int (fun _ _ => rfl))) pa_nil))))), ?_⟩
  simp only [hp.o, hq.o, cx_K, decide_true, decide_false, reduceCtorEq, gTp, gCons, gNil, ca_0, ca_1, ca_2, ca_3, ca_4, ca_5, ca_6, ca_7, ca_8, ca_9, ca_10, ca_11, ca_12, ca_13, ca_14, ca_15, ca_16, ca_17, ca_18, ca_19, ca_20, ca_21, ca_22, ca_23, ca_24, ca_25, ca_26, ca_27, ca_28, ca_29, ca_30, not_true_eq_false, not_false_eq_true, Int.reduceEq, Nat.reduceEqDiff, Nat.reduceLeDiff, rGcd, V.ty.injEq, eq_self, List.not_mem_nil, beq_self_eq_true, HO.lst.injEq, HO.tup.injEq, tFor_eq, iRng1, iList, iTup, nat10, tSeq, rIxA, rSetA, rIsN, rIsT, tTp, tLs, itsO_tup, itsO_lst, tyO_tup, tyO_lst, tyO_dK, tyN_non, tyN_bl, tyN_int, tyN_str, tyN_ref, tyNs_lt, isB, upd_same, upd_upd, sizeLine_eq, List.mem_cons, String.reduceBEq, String.reduceEq, Bool.or_false, Bool.or_true, Bool.and_false, Bool.false_or, Bool.and_self, Bool.false_and, Bool.not_false, Bool.not_true, List.any_cons, List.any_nil, atI_0, setI_0, atI_1, setI_1, atI_2, setI_2, atI_3, setI_3, atI_4, setI_4, atI_5, setI_5, atI_6, setI_6, tAsg, gName, tOp, tUn, tVar, tC, tCons, L2.tNil, tRet, tIfS, tTest, tCB, tCall, rI, rI0, rU, tNext, tB, tAnd, tOr, tNot, tAndV, tOrV, tNotV, tDrop, tIf, tPar, gSub, rIxL, rIxT, rEq, rNe, rSetL, tBits,
    L2.start, List.map_cons, List.map_nil, List.cons_append, List.nil_append, List.append_nil, List.length_cons, List.length_nil, List.replicate, Nat.reduceAdd, Nat.reduceSub, Nat.zero_add, List.getElem?_cons_zero, List.getElem?_cons_succ, List.set_cons_zero, List.set_cons_succ,
    Option.some.injEq, exists_eq_left', exists_eq_left, V.int.injEq, V.bl.injEq, V.ref.injEq, V.str.injEq, List.cons.injEq, reduceCtorEq, and_true, true_and, false_and, and_false, exists_false, or_false, false_or, or_true, true_or, exists_const, CMul, CDiv, CPow, and_assoc, exists_and_left, exists_and_right, Int.reducePow, Int.reduceNeg, Int.reduceLT, Int.reduceLE, Nat.reducePow, Nat.reduceLT, Int.reduceToNat, gt_iff_lt, ge_iff_le, decide_eq_true_eq, Bool.not_eq_true', decide_eq_false_iff_not, scal, ↓reduceIte, Bool.false_eq_true]
  exact ⟨mulW hp.sz.1 hq.sz.2 (by omega), mulW hq.sz.1 hp.sz.2 (by omega), mulW hp.sz.2 hq.sz.2 (by omega), _, _, rfl, szMono (szMul hp.sz.2 hq.sz.2) (by omega), fun z hz => k z (hz.2 (mul_ne hp.nf.1 hq.nf.1))⟩
abbrev sFloor : Stmt := topS 22
theorem scFloor : FnScope ["value"] ["value"] (defScope sFloor) := ⟨rfl, rfl, rfl, by decide +kernel, rfl, by decide +kernel, by decide +kernel⟩
theorem k_Floor (T : Bt K mg) (D : Dfn K mg "floor_of" sFloor ["value"]) (d_require : Kn P w K mg base 1 "require" ["well_formed", "what"] spRequire) (d_is_fraction : Kn P w K mg base 2 "is_fraction" ["value"] (spIsFraction K)) : Kn P w K mg base 3 "floor_of" ["value"] (spFloor K) := by
  refine Kn.mk' D scFloor (fun vs H Q E h => ?_) (fun f cdv A outer s H vs Q E hr h => ?_)
  · obtain ⟨a, q, rfl, _⟩ := h
    rfl
  obtain ⟨a, q, rfl, hq, k⟩ := h
  refine ⟨_, (pss_cons (ps_expr (pe_kn d_require hr (by rfl) (pa_cons (pe_kn d_is_fraction hr (by rfl) (pa_cons (pv 0) pa_nil)) (pa_cons pe_str pa_nil))))
      (pss_one (ps_ret (pe_op op_fdivW (pe_ix ix_any (pv 0) pe_int (fun _ _ => rfl)) (pe_ix ix_any (pv 0) pe_int (fun _ _ => rfl)))))), ?_⟩
  simp only [cx_K, decide_true, decide_false, reduceCtorEq, gTp, gCons, gNil, ca_0, ca_1, ca_2, ca_3, ca_4, ca_5, ca_6, ca_7, ca_8, ca_9, ca_10, ca_11, ca_12, ca_13, ca_14, ca_15, ca_16, ca_17, ca_18, ca_19, ca_20, ca_21, ca_22, ca_23, ca_24, ca_25, ca_26, ca_27, ca_28, ca_29, ca_30, not_true_eq_false, not_false_eq_true, Int.reduceEq, Nat.reduceEqDiff, Nat.reduceLeDiff, rGcd, V.ty.injEq, eq_self, List.not_mem_nil, beq_self_eq_true, HO.lst.injEq, HO.tup.injEq, tFor_eq, iRng1, iList, iTup, nat10, tSeq, rIxA, rSetA, rIsN, rIsT, tTp, tLs, itsO_tup, itsO_lst, tyO_tup, tyO_lst, tyO_dK, tyN_non, tyN_bl, tyN_int, tyN_str, tyN_ref, tyNs_lt, isB, upd_same, upd_upd, sizeLine_eq, List.mem_cons, String.reduceBEq, String.reduceEq, Bool.or_false, Bool.or_true, Bool.and_false, Bool.false_or, Bool.and_self, Bool.false_and, Bool.not_false, Bool.not_true, List.any_cons, List.any_nil, atI_0, setI_0, atI_1, setI_1, atI_2, setI_2, atI_3, setI_3, atI_4, setI_4, atI_5, setI_5, atI_6, setI_6, tAsg, gName, tOp, tUn, tVar, tC, tCons, L2.tNil, tRet, tIfS, tTest, tCB, tCall, rI, rI0, rU, tNext, tB, tAnd, tOr, tNot, tAndV, tOrV, tNotV, tDrop, tIf, tPar, gSub, rIxL, rIxT, rEq, rNe, rSetL, tBits,
    L2.start, List.map_cons, List.map_nil, List.cons_append, List.nil_append, List.append_nil, List.length_cons, List.length_nil, List.replicate, Nat.reduceAdd, Nat.reduceSub, Nat.zero_add, List.getElem?_cons_zero, List.getElem?_cons_succ, List.set_cons_zero, List.set_cons_succ,
    Option.some.injEq, exists_eq_left', exists_eq_left, V.int.injEq, V.bl.injEq, V.ref.injEq, V.str.injEq, List.cons.injEq, reduceCtorEq, and_true, true_and, false_and, and_false, exists_false, or_false, false_or, or_true, true_or, exists_const, CMul, CDiv, CPow, and_assoc, exists_and_left, exists_and_right, Int.reducePow, Int.reduceNeg, Int.reduceLT, Int.reduceLE, Nat.reducePow, Nat.reduceLT, Int.reduceToNat, gt_iff_lt, ge_iff_le, decide_eq_true_eq, Bool.not_eq_true', decide_eq_false_iff_not, scal, ↓reduceIte, Bool.false_eq_true]
  refine ⟨_, rfl, Tyd.fr hq.o, _, by rw [frOk_fr hq.o hq.nf], ?_⟩
  simp only [hq.o, cx_K, decide_true, decide_false, reduceCtorEq, gTp, gCons, gNil, ca_0, ca_1, ca_2, ca_3, ca_4, ca_5, ca_6, ca_7, ca_8, ca_9, ca_10, ca_11, ca_12, ca_13, ca_14, ca_15, ca_16, ca_17, ca_18, ca_19, ca_20, ca_21, ca_22, ca_23, ca_24, ca_25, ca_26, ca_27, ca_28, ca_29, ca_30, not_true_eq_false, not_false_eq_true, Int.reduceEq, Nat.reduceEqDiff, Nat.reduceLeDiff, rGcd, V.ty.injEq, eq_self, List.not_mem_nil, beq_self_eq_true, HO.lst.injEq, HO.tup.injEq, tFor_eq, iRng1, iList, iTup, nat10, tSeq, rIxA, rSetA, rIsN, rIsT, tTp, tLs, itsO_tup, itsO_lst, tyO_tup, tyO_lst, tyO_dK, tyN_non, tyN_bl, tyN_int, tyN_str, tyN_ref, tyNs_lt, isB, upd_same, upd_upd, sizeLine_eq, List.mem_cons, String.reduceBEq, String.reduceEq, Bool.or_false, Bool.or_true, Bool.and_false, Bool.false_or, Bool.and_self, Bool.false_and, Bool.not_false, Bool.not_true, List.any_cons, List.any_nil, atI_0, setI_0, atI_1, setI_1, atI_2, setI_2, atI_3, setI_3, atI_4, setI_4, atI_5, setI_5, atI_6, setI_6, tAsg, gName, tOp, tUn, tVar, tC, tCons, L2.tNil, tRet, tIfS, tTest, tCB, tCall, rI, rI0, rU, tNext, tB, tAnd, tOr, tNot, tAndV, tOrV, tNotV, tDrop, tIf, tPar, gSub, rIxL, rIxT, rEq, rNe, rSetL, tBits,
    L2.start, List.map_cons, List.map_nil, List.cons_append, List.nil_append, List.append_nil, List.length_cons, List.length_nil, List.replicate, Nat.reduceAdd, Nat.reduceSub, Nat.zero_add, List.getElem?_cons_zero, List.getElem?_cons_succ, List.set_cons_zero, List.set_cons_succ,
    Option.some.injEq, exists_eq_left', exists_eq_left, V.int.injEq, V.bl.injEq, V.ref.injEq, V.str.injEq, List.cons.injEq, reduceCtorEq, and_true, true_and, false_and, and_false, exists_false, or_false, false_or, or_true, true_or, exists_const, CMul, CDiv, CPow, and_assoc, exists_and_left, exists_and_right, Int.reducePow, Int.reduceNeg, Int.reduceLT, Int.reduceLE, Nat.reducePow, Nat.reduceLT, Int.reduceToNat, gt_iff_lt, ge_iff_le, decide_eq_true_eq, Bool.not_eq_true', decide_eq_false_iff_not, scal, ↓reduceIte, Bool.false_eq_true]
  exact ⟨wide_div (b := 8000) (by have := hq.nf.1; omega) hq.sz.2 (by omega) (by omega), k⟩
abbrev sPart : Stmt := topS 23
theorem scPart : FnScope ["value"] ["value"] (defScope sPart) := ⟨rfl, rfl, rfl, by decide +kernel, rfl, by decide +kernel, by decide +kernel⟩
theorem k_Part (T : Bt K mg) (D : Dfn K mg "part_of" sPart ["value"]) (d_require : Kn P w K mg base 1 "require" ["well_formed", "what"] spRequire) (d_is_fraction : Kn P w K mg base 2 "is_fraction" ["value"] (spIsFraction K)) : Kn P w K mg base 3 "part_of" ["value"] (spUn K fun q => (q.1 % q.2, q.2)) := by
  refine Kn.mk' D scPart (fun vs H Q E h => ?_) (fun f cdv A outer s H vs Q E hr h => ?_)
  · obtain ⟨a, q, rfl, _⟩ := h
    rfl
  obtain ⟨a, q, rfl, hq, k⟩ := h
  refine ⟨_, (pss_cons (ps_expr (pe_kn d_require hr (by rfl) (pa_cons (pe_kn d_is_fraction hr (by rfl) (pa_cons (pv 0) pa_nil)) (pa_cons pe_str pa_nil))))
      (pss_one (ps_ret (pe_tp (pa_cons (pe_op op_modN (pe_ix ix_any (pv 0) pe_int (fun _ _ => rfl)) (pe_ix ix_any (pv 0) pe_int (fun _ _ => rfl))) (pa_cons (pe_ix ix_any (pv 0) pe_int (fun _ _ => rfl)) pa_nil)))))), ?_⟩
  simp only [cx_K, decide_true, decide_false, reduceCtorEq, gTp, gCons, gNil, ca_0, ca_1, ca_2, ca_3, ca_4, ca_5, ca_6, ca_7, ca_8, ca_9, ca_10, ca_11, ca_12, ca_13, ca_14, ca_15, ca_16, ca_17, ca_18, ca_19, ca_20, ca_21, ca_22, ca_23, ca_24, ca_25, ca_26, ca_27, ca_28, ca_29, ca_30, not_true_eq_false, not_false_eq_true, Int.reduceEq, Nat.reduceEqDiff, Nat.reduceLeDiff, rGcd, V.ty.injEq, eq_self, List.not_mem_nil, beq_self_eq_true, HO.lst.injEq, HO.tup.injEq, tFor_eq, iRng1, iList, iTup, nat10, tSeq, rIxA, rSetA, rIsN, rIsT, tTp, tLs, itsO_tup, itsO_lst, tyO_tup, tyO_lst, tyO_dK, tyN_non, tyN_bl, tyN_int, tyN_str, tyN_ref, tyNs_lt, isB, upd_same, upd_upd, sizeLine_eq, List.mem_cons, String.reduceBEq, String.reduceEq, Bool.or_false, Bool.or_true, Bool.and_false, Bool.false_or, Bool.and_self, Bool.false_and, Bool.not_false, Bool.not_true, List.any_cons, List.any_nil, atI_0, setI_0, atI_1, setI_1, atI_2, setI_2, atI_3, setI_3, atI_4, setI_4, atI_5, setI_5, atI_6, setI_6, tAsg, gName, tOp, tUn, tVar, tC, tCons, L2.tNil, tRet, tIfS, tTest, tCB, tCall, rI, rI0, rU, tNext, tB, tAnd, tOr, tNot, tAndV, tOrV, tNotV, tDrop, tIf, tPar, gSub, rIxL, rIxT, rEq, rNe, rSetL, tBits,
    L2.start, List.map_cons, List.map_nil, List.cons_append, List.nil_append, List.append_nil, List.length_cons, List.length_nil, List.replicate, Nat.reduceAdd, Nat.reduceSub, Nat.zero_add, List.getElem?_cons_zero, List.getElem?_cons_succ, List.set_cons_zero, List.set_cons_succ,
    Option.some.injEq, exists_eq_left', exists_eq_left, V.int.injEq, V.bl.injEq, V.ref.injEq, V.str.injEq, List.cons.injEq, reduceCtorEq, and_true, true_and, false_and, and_false, exists_false, or_false, false_or, or_true, true_or, exists_const, CMul, CDiv, CPow, and_assoc, exists_and_left, exists_and_right, Int.reducePow, Int.reduceNeg, Int.reduceLT, Int.reduceLE, Nat.reducePow, Nat.reduceLT, Int.reduceToNat, gt_iff_lt, ge_iff_le, decide_eq_true_eq, Bool.not_eq_true', decide_eq_false_iff_not, scal, ↓reduceIte, Bool.false_eq_true]
  refine ⟨_, rfl, Tyd.fr hq.o, _, by rw [frOk_fr hq.o hq.nf], ?_⟩
  have fm : q.1.fmod q.2 = q.1 % q.2 := Int.fmod_eq_emod_of_nonneg _ (by have := hq.nf.1; omega)
  simp only [hq.o, fm, cx_K, decide_true, decide_false, reduceCtorEq, gTp, gCons, gNil, ca_0, ca_1, ca_2, ca_3, ca_4, ca_5, ca_6, ca_7, ca_8, ca_9, ca_10, ca_11, ca_12, ca_13, ca_14, ca_15, ca_16, ca_17, ca_18, ca_19, ca_20, ca_21, ca_22, ca_23, ca_24, ca_25, ca_26, ca_27, ca_28, ca_29, ca_30, not_true_eq_false, not_false_eq_true, Int.reduceEq, Nat.reduceEqDiff, Nat.reduceLeDiff, rGcd, V.ty.injEq, eq_self, List.not_mem_nil, beq_self_eq_true, HO.lst.injEq, HO.tup.injEq, tFor_eq, iRng1, iList, iTup, nat10, tSeq, rIxA, rSetA, rIsN, rIsT, tTp, tLs, itsO_tup, itsO_lst, tyO_tup, tyO_lst, tyO_dK, tyN_non, tyN_bl, tyN_int, tyN_str, tyN_ref, tyNs_lt, isB, upd_same, upd_upd, sizeLine_eq, List.mem_cons, String.reduceBEq, String.reduceEq, Bool.or_false, Bool.or_true, Bool.and_false, Bool.false_or, Bool.and_self, Bool.false_and, Bool.not_false, Bool.not_true, List.any_cons, List.any_nil, atI_0, setI_0, atI_1, setI_1, atI_2, setI_2, atI_3, setI_3, atI_4, setI_4, atI_5, setI_5, atI_6, setI_6, tAsg, gName, tOp, tUn, tVar, tC, tCons, L2.tNil, tRet, tIfS, tTest, tCB, tCall, rI, rI0, rU, tNext, tB, tAnd, tOr, tNot, tAndV, tOrV, tNotV, tDrop, tIf, tPar, gSub, rIxL, rIxT, rEq, rNe, rSetL, tBits,
    L2.start, List.map_cons, List.map_nil, List.cons_append, List.nil_append, List.append_nil, List.length_cons, List.length_nil, List.replicate, Nat.reduceAdd, Nat.reduceSub, Nat.zero_add, List.getElem?_cons_zero, List.getElem?_cons_succ, List.set_cons_zero, List.set_cons_succ,
    Option.some.injEq, exists_eq_left', exists_eq_left, V.int.injEq, V.bl.injEq, V.ref.injEq, V.str.injEq, List.cons.injEq, reduceCtorEq, and_true, true_and, false_and, and_false, exists_false, or_false, false_or, or_true, true_or, exists_const, CMul, CDiv, CPow, and_assoc, exists_and_left, exists_and_right, Int.reducePow, Int.reduceNeg, Int.reduceLT, Int.reduceLE, Nat.reducePow, Nat.reduceLT, Int.reduceToNat, gt_iff_lt, ge_iff_le, decide_eq_true_eq, Bool.not_eq_true', decide_eq_false_iff_not, scal, ↓reduceIte, Bool.false_eq_true]
  exact ⟨hq.nf.ne, fun p hp kp => k.new hp kp⟩
abbrev sMagn : Stmt := topS 21
theorem scMagn : FnScope ["value"] ["value"] (defScope sMagn) := ⟨rfl, rfl, rfl, by decide +kernel, rfl, by decide +kernel, by decide +kernel⟩
theorem k_Magn (T : Bt K mg) (D : Dfn K mg "magnitude" sMagn ["value"]) (d_require : Kn P w K mg base 1 "require" ["well_formed", "what"] spRequire) (d_is_fraction : Kn P w K mg base 2 "is_fraction" ["value"] (spIsFraction K)) : Kn P w K mg base 3 "magnitude" ["value"] (spUn K fun q => ((q.1.natAbs : Int), q.2)) := by
  refine Kn.mk' D scMagn (fun vs H Q E h => ?_) (fun f cdv A outer s H vs Q E hr h => ?_)
  · obtain ⟨a, q, rfl, _⟩ := h
    rfl
  obtain ⟨a, q, rfl, hq, k⟩ := h
  refine ⟨_, (pss_cons (ps_expr (pe_kn d_require hr (by rfl) (pa_cons (pe_kn d_is_fraction hr (by rfl) (pa_cons (pv 0) pa_nil)) (pa_cons pe_str pa_nil))))
      (pss_one (ps_ret (pe_tp (pa_cons (pe_callB call_abs (by rfl) T.b_abs (by decide +kernel) (pa_cons (pe_ix ix_any (pv 0) pe_int (fun _ _ => rfl)) pa_nil)) (pa_cons (pe_ix ix_any (pv 0) pe_int (fun _ _ => rfl)) pa_nil)))))), ?_⟩
  simp only [cx_K, decide_true, decide_false, reduceCtorEq, gTp, gCons, gNil, ca_0, ca_1, ca_2, ca_3, ca_4, ca_5, ca_6, ca_7, ca_8, ca_9, ca_10, ca_11, ca_12, ca_13, ca_14, ca_15, ca_16, ca_17, ca_18, ca_19, ca_20, ca_21, ca_22, ca_23, ca_24, ca_25, ca_26, ca_27, ca_28, ca_29, ca_30, not_true_eq_false, not_false_eq_true, Int.reduceEq, Nat.reduceEqDiff, Nat.reduceLeDiff, rGcd, V.ty.injEq, eq_self, List.not_mem_nil, beq_self_eq_true, HO.lst.injEq, HO.tup.injEq, tFor_eq, iRng1, iList, iTup, nat10, tSeq, rIxA, rSetA, rIsN, rIsT, tTp, tLs, itsO_tup, itsO_lst, tyO_tup, tyO_lst, tyO_dK, tyN_non, tyN_bl, tyN_int, tyN_str, tyN_ref, tyNs_lt, isB, upd_same, upd_upd, sizeLine_eq, List.mem_cons, String.reduceBEq, String.reduceEq, Bool.or_false, Bool.or_true, Bool.and_false, Bool.false_or, Bool.and_self, Bool.false_and, Bool.not_false, Bool.not_true, List.any_cons, List.any_nil, atI_0, setI_0, atI_1, setI_1, atI_2, setI_2, atI_3, setI_3, atI_4, setI_4, atI_5, setI_5, atI_6, setI_6, tAsg, gName, tOp, tUn, tVar, tC, tCons, L2.tNil, tRet, tIfS, tTest, tCB, tCall, rI, rI0, rU, tNext, tB, tAnd, tOr, tNot, tAndV, tOrV, tNotV, tDrop, tIf, tPar, gSub, rIxL, rIxT, rEq, rNe, rSetL, tBits,
    L2.start, List.map_cons, List.map_nil, List.cons_append, List.nil_append, List.append_nil, List.length_cons, List.length_nil, List.replicate, Nat.reduceAdd, Nat.reduceSub, Nat.zero_add, List.getElem?_cons_zero, List.getElem?_cons_succ, List.set_cons_zero, List.set_cons_succ,
    Option.some.injEq, exists_eq_left', exists_eq_left, V.int.injEq, V.bl.injEq, V.ref.injEq, V.str.injEq, List.cons.injEq, reduceCtorEq, and_true, true_and, false_and, and_false, exists_false, or_false, false_or, or_true, true_or, exists_const, CMul, CDiv, CPow, and_assoc, exists_and_left, exists_and_right, Int.reducePow, Int.reduceNeg, Int.reduceLT, Int.reduceLE, Nat.reducePow, Nat.reduceLT, Int.reduceToNat, gt_iff_lt, ge_iff_le, decide_eq_true_eq, Bool.not_eq_true', decide_eq_false_iff_not, scal, ↓reduceIte, Bool.false_eq_true]
  refine ⟨_, rfl, Tyd.fr hq.o, _, by rw [frOk_fr hq.o hq.nf], ?_⟩
  simp only [hq.o, abs_if, cx_K, decide_true, decide_false, reduceCtorEq, gTp, gCons, gNil, ca_0, ca_1, ca_2, ca_3, ca_4, ca_5, ca_6, ca_7, ca_8, ca_9, ca_10, ca_11, ca_12, ca_13, ca_14, ca_15, ca_16, ca_17, ca_18, ca_19, ca_20, ca_21, ca_22, ca_23, ca_24, ca_25, ca_26, ca_27, ca_28, ca_29, ca_30, not_true_eq_false, not_false_eq_true, Int.reduceEq, Nat.reduceEqDiff, Nat.reduceLeDiff, rGcd, V.ty.injEq, eq_self, List.not_mem_nil, beq_self_eq_true, HO.lst.injEq, HO.tup.injEq, tFor_eq, iRng1, iList, iTup, nat10, tSeq, rIxA, rSetA, rIsN, rIsT, tTp, tLs, itsO_tup, itsO_lst, tyO_tup, tyO_lst, tyO_dK, tyN_non, tyN_bl, tyN_int, tyN_str, tyN_ref, tyNs_lt, isB, upd_same, upd_upd, sizeLine_eq, List.mem_cons, String.reduceBEq, String.reduceEq, Bool.or_false, Bool.or_true, Bool.and_false, Bool.false_or, Bool.and_self, Bool.false_and, Bool.not_false, Bool.not_true, List.any_cons, List.any_nil, atI_0, setI_0, atI_1, setI_1, atI_2, setI_2, atI_3, setI_3, atI_4, setI_4, atI_5, setI_5, atI_6, setI_6, tAsg, gName, tOp, tUn, tVar, tC, tCons, L2.tNil, tRet, tIfS, tTest, tCB, tCall, rI, rI0, rU, tNext, tB, tAnd, tOr, tNot, tAndV, tOrV, tNotV, tDrop, tIf, tPar, gSub, rIxL, rIxT, rEq, rNe, rSetL, tBits,
    L2.start, List.map_cons, List.map_nil, List.cons_append, List.nil_append, List.append_nil, List.length_cons, List.length_nil, List.replicate, Nat.reduceAdd, Nat.reduceSub, Nat.zero_add, List.getElem?_cons_zero, List.getElem?_cons_succ, List.set_cons_zero, List.set_cons_succ,
    Option.some.injEq, exists_eq_left', exists_eq_left, V.int.injEq, V.bl.injEq, V.ref.injEq, V.str.injEq, List.cons.injEq, reduceCtorEq, and_true, true_and, false_and, and_false, exists_false, or_false, false_or, or_true, true_or, exists_const, CMul, CDiv, CPow, and_assoc, exists_and_left, exists_and_right, Int.reducePow, Int.reduceNeg, Int.reduceLT, Int.reduceLE, Nat.reducePow, Nat.reduceLT, Int.reduceToNat, gt_iff_lt, ge_iff_le, decide_eq_true_eq, Bool.not_eq_true', decide_eq_false_iff_not, scal, ↓reduceIte, Bool.false_eq_true]
  exact fun p hp kp => k.new hp kp
abbrev sOffset : Stmt := topS 24
theorem scOffset : FnScope ["value", "numerator", "denominator"] ["value"] (defScope sOffset) := ⟨rfl, rfl, rfl, by decide +kernel, rfl, by decide +kernel, by decide +kernel⟩
theorem k_Offset (T : Bt K mg) (D : Dfn K mg "offset_of" sOffset ["value"]) (d_require : Kn P w K mg base 1 "require" ["well_formed", "what"] spRequire) (d_is_fraction : Kn P w K mg base 2 "is_fraction" ["value"] (spIsFraction K)) (d_part_of : Kn P w K mg base 3 "part_of" ["value"] (spUn K fun q => (q.1 % q.2, q.2))) : Kn P w K mg base 4 "offset_of" ["value"] (spUn K off) := by
  refine Kn.mk' D scOffset (fun vs H Q E h => ?_) (fun f cdv A outer s H vs Q E hr h => ?_)
  · obtain ⟨a, q, rfl, _⟩ := h
    rfl
  obtain ⟨a, q, rfl, hq, k⟩ := h
  refine ⟨_, (pss_cons (ps_expr (pe_kn d_require hr (by rfl) (pa_cons (pe_kn d_is_fraction hr (by rfl) (pa_cons (pv 0) pa_nil)) (pa_cons pe_str pa_nil))))
      (pss_cons (ps_asg (pe_kn d_part_of hr (by rfl) (pa_cons (pv 0) pa_nil)) (pg_tp 2 (by rfl) (pgs_cons (pg_name (i := 1) scOffset.nd rfl (.inl rfl)) (pgs_cons (pg_name (i := 2) scOffset.nd rfl (.inl rfl)) pgs_nil))))
      (pss_cons (ps_if (pt_cmpR op_gt (pe_op op_mul pe_int (pv 1)) (pv 2) (nomark _)) (pss_one (ps_set (i := 1) scOffset.nd rfl (.inl rfl) (pe_op op_sub (pv 1) (pv 2)))) pss_nil)
      (pss_one (ps_ret (pe_tp (pa_cons (pv 1) (pa_cons (pv 2) pa_nil)))))))), ?_⟩
  simp only [cx_K, decide_true, decide_false, reduceCtorEq, gTp, gCons, gNil, ca_0, ca_1, ca_2, ca_3, ca_4, ca_5, ca_6, ca_7, ca_8, ca_9, ca_10, ca_11, ca_12, ca_13, ca_14, ca_15, ca_16, ca_17, ca_18, ca_19, ca_20, ca_21, ca_22, ca_23, ca_24, ca_25, ca_26, ca_27, ca_28, ca_29, ca_30, not_true_eq_false, not_false_eq_true, Int.reduceEq, Nat.reduceEqDiff, Nat.reduceLeDiff, rGcd, V.ty.injEq, eq_self, List.not_mem_nil, beq_self_eq_true, HO.lst.injEq, HO.tup.injEq, tFor_eq, iRng1, iList, iTup, nat10, tSeq, rIxA, rSetA, rIsN, rIsT, tTp, tLs, itsO_tup, itsO_lst, tyO_tup, tyO_lst, tyO_dK, tyN_non, tyN_bl, tyN_int, tyN_str, tyN_ref, tyNs_lt, isB, upd_same, upd_upd, sizeLine_eq, List.mem_cons, String.reduceBEq, String.reduceEq, Bool.or_false, Bool.or_true, Bool.and_false, Bool.false_or, Bool.and_self, Bool.false_and, Bool.not_false, Bool.not_true, List.any_cons, List.any_nil, atI_0, setI_0, atI_1, setI_1, atI_2, setI_2, atI_3, setI_3, atI_4, setI_4, atI_5, setI_5, atI_6, setI_6, tAsg, gName, tOp, tUn, tVar, tC, tCons, L2.tNil, tRet, tIfS, tTest, tCB, tCall, rI, rI0, rU, tNext, tB, tAnd, tOr, tNot, tAndV, tOrV, tNotV, tDrop, tIf, tPar, gSub, rIxL, rIxT, rEq, rNe, rSetL, tBits,
    L2.start, List.map_cons, List.map_nil, List.cons_append, List.nil_append, List.append_nil, List.length_cons, List.length_nil, List.replicate, Nat.reduceAdd, Nat.reduceSub, Nat.zero_add, List.getElem?_cons_zero, List.getElem?_cons_succ, List.set_cons_zero, List.set_cons_succ,
    Option.some.injEq, exists_eq_left', exists_eq_left, V.int.injEq, V.bl.injEq, V.ref.injEq, V.str.injEq, List.cons.injEq, reduceCtorEq, and_true, true_and, false_and, and_false, exists_false, or_false, false_or, or_true, true_or, exists_const, CMul, CDiv, CPow, and_assoc, exists_and_left, exists_and_right, Int.reducePow, Int.reduceNeg, Int.reduceLT, Int.reduceLE, Nat.reducePow, Nat.reduceLT, Int.reduceToNat, gt_iff_lt, ge_iff_le, decide_eq_true_eq, Bool.not_eq_true', decide_eq_false_iff_not, scal, ↓reduceIte, Bool.false_eq_true]
  refine ⟨_, rfl, Tyd.fr hq.o, _, by rw [frOk_fr hq.o hq.nf], ?_⟩
  refine ⟨a, q, rfl, hq, fun b H1 s1 o1 => ?_⟩
  have o1' : ob K H1 b = some (.tup [.int (q.1 % q.2), .int q.2]) := o1
  simp only [o1', cx_K, decide_true, decide_false, reduceCtorEq, gTp, gCons, gNil, ca_0, ca_1, ca_2, ca_3, ca_4, ca_5, ca_6, ca_7, ca_8, ca_9, ca_10, ca_11, ca_12, ca_13, ca_14, ca_15, ca_16, ca_17, ca_18, ca_19, ca_20, ca_21, ca_22, ca_23, ca_24, ca_25, ca_26, ca_27, ca_28, ca_29, ca_30, not_true_eq_false, not_false_eq_true, Int.reduceEq, Nat.reduceEqDiff, Nat.reduceLeDiff, rGcd, V.ty.injEq, eq_self, List.not_mem_nil, beq_self_eq_true, HO.lst.injEq, HO.tup.injEq, tFor_eq, iRng1, iList, iTup, nat10, tSeq, rIxA, rSetA, rIsN, rIsT, tTp, tLs, itsO_tup, itsO_lst, tyO_tup, tyO_lst, tyO_dK, tyN_non, tyN_bl, tyN_int, tyN_str, tyN_ref, tyNs_lt, isB, upd_same, upd_upd, sizeLine_eq, List.mem_cons, String.reduceBEq, String.reduceEq, Bool.or_false, Bool.or_true, Bool.and_false, Bool.false_or, Bool.and_self, Bool.false_and, Bool.not_false, Bool.not_true, List.any_cons, List.any_nil, atI_0, setI_0, atI_1, setI_1, atI_2, setI_2, atI_3, setI_3, atI_4, setI_4, atI_5, setI_5, atI_6, setI_6, tAsg, gName, tOp, tUn, tVar, tC, tCons, L2.tNil, tRet, tIfS, tTest, tCB, tCall, rI, rI0, rU, tNext, tB, tAnd, tOr, tNot, tAndV, tOrV, tNotV, tDrop, tIf, tPar, gSub, rIxL, rIxT, rEq, rNe, rSetL, tBits,
    L2.start, List.map_cons, List.map_nil, List.cons_append, List.nil_append, List.append_nil, List.length_cons, List.length_nil, List.replicate, Nat.reduceAdd, Nat.reduceSub, Nat.zero_add, List.getElem?_cons_zero, List.getElem?_cons_succ, List.set_cons_zero, List.set_cons_succ,
    Option.some.injEq, exists_eq_left', exists_eq_left, V.int.injEq, V.bl.injEq, V.ref.injEq, V.str.injEq, List.cons.injEq, reduceCtorEq, and_true, true_and, false_and, and_false, exists_false, or_false, false_or, or_true, true_or, exists_const, CMul, CDiv, CPow, and_assoc, exists_and_left, exists_and_right, Int.reducePow, Int.reduceNeg, Int.reduceLT, Int.reduceLE, Nat.reducePow, Nat.reduceLT, Int.reduceToNat, gt_iff_lt, ge_iff_le, decide_eq_true_eq, Bool.not_eq_true', decide_eq_false_iff_not, scal, ↓reduceIte, Bool.false_eq_true]
  refine ite2 (fun h => ?_) (fun h => ?_)
  · intro p hp kp
    have e : off q = (q.1 % q.2 - q.2, q.2) := by unfold off; rw [if_pos h]
    rw [e] at k
    exact k p _ (s1.trans (Same.new hp _)) (ob_new kp)
  · intro p hp kp
    have e : off q = (q.1 % q.2, q.2) := by unfold off; rw [if_neg h]
    rw [e] at k
    exact k p _ (s1.trans (Same.new hp _)) (ob_new kp)
abbrev sDistance : Stmt := topS 25
theorem scDistance : FnScope ["value"] ["value"] (defScope sDistance) := ⟨rfl, rfl, rfl, by decide +kernel, rfl, by decide +kernel, by decide +kernel⟩
theorem k_Distance (T : Bt K mg) (D : Dfn K mg "distance_of" sDistance ["value"]) (d_require : Kn P w K mg base 1 "require" ["well_formed", "what"] spRequire) (d_is_fraction : Kn P w K mg base 2 "is_fraction" ["value"] (spIsFraction K)) (d_offset_of : Kn P w K mg base 4 "offset_of" ["value"] (spUn K off)) (d_magnitude : Kn P w K mg base 3 "magnitude" ["value"] (spUn K fun q => ((q.1.natAbs : Int), q.2))) : Kn P w K mg base 5 "distance_of" ["value"] (spUn K fun q => (((off q).1.natAbs : Int), q.2)) := by
  refine Kn.mk' D scDistance (fun vs H Q E h => ?_) (fun f cdv A outer s H vs Q E hr h => ?_)
  · obtain ⟨a, q, rfl, _⟩ := h
    rfl
  obtain ⟨a, q, rfl, hq, k⟩ := h
  refine ⟨_, (pss_cons (ps_expr (pe_kn d_require hr (by rfl) (pa_cons (pe_kn d_is_fraction hr (by rfl) (pa_cons (pv 0) pa_nil)) (pa_cons pe_str pa_nil))))
      (pss_one (ps_ret (pe_kn d_magnitude hr (by rfl) (pa_cons (pe_kn d_offset_of hr (by rfl) (pa_cons (pv 0) pa_nil)) pa_nil))))), ?_⟩
  simp only [cx_K, decide_true, decide_false, reduceCtorEq, gTp, gCons, gNil, ca_0, ca_1, ca_2, ca_3, ca_4, ca_5, ca_6, ca_7, ca_8, ca_9, ca_10, ca_11, ca_12, ca_13, ca_14, ca_15, ca_16, ca_17, ca_18, ca_19, ca_20, ca_21, ca_22, ca_23, ca_24, ca_25, ca_26, ca_27, ca_28, ca_29, ca_30, not_true_eq_false, not_false_eq_true, Int.reduceEq, Nat.reduceEqDiff, Nat.reduceLeDiff, rGcd, V.ty.injEq, eq_self, List.not_mem_nil, beq_self_eq_true, HO.lst.injEq, HO.tup.injEq, tFor_eq, iRng1, iList, iTup, nat10, tSeq, rIxA, rSetA, rIsN, rIsT, tTp, tLs, itsO_tup, itsO_lst, tyO_tup, tyO_lst, tyO_dK, tyN_non, tyN_bl, tyN_int, tyN_str, tyN_ref, tyNs_lt, isB, upd_same, upd_upd, sizeLine_eq, List.mem_cons, String.reduceBEq, String.reduceEq, Bool.or_false, Bool.or_true, Bool.and_false, Bool.false_or, Bool.and_self, Bool.false_and, Bool.not_false, Bool.not_true, List.any_cons, List.any_nil, atI_0, setI_0, atI_1, setI_1, atI_2, setI_2, atI_3, setI_3, atI_4, setI_4, atI_5, setI_5, atI_6, setI_6, tAsg, gName, tOp, tUn, tVar, tC, tCons, L2.tNil, tRet, tIfS, tTest, tCB, tCall, rI, rI0, rU, tNext, tB, tAnd, tOr, tNot, tAndV, tOrV, tNotV, tDrop, tIf, tPar, gSub, rIxL, rIxT, rEq, rNe, rSetL, tBits,
    L2.start, List.map_cons, List.map_nil, List.cons_append, List.nil_append, List.append_nil, List.length_cons, List.length_nil, List.replicate, Nat.reduceAdd, Nat.reduceSub, Nat.zero_add, List.getElem?_cons_zero, List.getElem?_cons_succ, List.set_cons_zero, List.set_cons_succ,
    Option.some.injEq, exists_eq_left', exists_eq_left, V.int.injEq, V.bl.injEq, V.ref.injEq, V.str.injEq, List.cons.injEq, reduceCtorEq, and_true, true_and, false_and, and_false, exists_false, or_false, false_or, or_true, true_or, exists_const, CMul, CDiv, CPow, and_assoc, exists_and_left, exists_and_right, Int.reducePow, Int.reduceNeg, Int.reduceLT, Int.reduceLE, Nat.reducePow, Nat.reduceLT, Int.reduceToNat, gt_iff_lt, ge_iff_le, decide_eq_true_eq, Bool.not_eq_true', decide_eq_false_iff_not, scal, ↓reduceIte, Bool.false_eq_true]
  refine ⟨_, rfl, Tyd.fr hq.o, _, by rw [frOk_fr hq.o hq.nf], ?_⟩
  refine ⟨a, q, rfl, hq, fun b H1 s1 o1 => ?_⟩
  exact ⟨b, off q, rfl, ⟨o1, nf_off hq.nf, szOff hq.nf hq.sz⟩, fun p H2 s2 o2 => k p H2 (s1.trans s2) o2⟩
abbrev sLPart : Stmt := topS 34
theorem scLPart : FnScope ["_law_value_here"] ["_law_value_here"] (defScope sLPart) := ⟨rfl, rfl, rfl, by decide +kernel, rfl, by decide +kernel, by decide +kernel⟩
theorem k_LPart (T : Bt K mg) (D : Dfn K mg "_law_part" sLPart ["_law_value_here"]) (d__law_lowest : Kn P w K mg base 2 "_law_lowest" ["_law_top", "_law_bottom"] (spLowest K)) : Kn P w K mg base 3 "_law_part" ["_law_value_here"] (spUn K fun q => (q.1 % q.2, q.2)) := by
  refine Kn.mk' D scLPart (fun vs H Q E h => ?_) (fun f cdv A outer s H vs Q E hr h => ?_)
  · obtain ⟨a, q, rfl, _⟩ := h
    rfl
  obtain ⟨a, q, rfl, hq, k⟩ := h
  refine ⟨_, (pss_one (ps_ret (pe_kn d__law_lowest hr (by rfl) (pa_cons (pe_op op_modN (pe_callTy call_int1 (by rfl) T.b_int (by decide +kernel) (pa_cons (pe_ix ix_any (pv 0) pe_int (fun _ _ => rfl)) pa_nil)) (pe_ix ix_any (pv 0) pe_int (fun _ _ => rfl))) (pa_cons (pe_ix ix_any (pv 0) pe_int (fun _ _ => rfl)) pa_nil))))), ?_⟩
  have fm : q.1.fmod q.2 = q.1 % q.2 := Int.fmod_eq_emod_of_nonneg _ (by have := hq.nf.1; omega)
  simp only [hq.o, fm, cx_K, decide_true, decide_false, reduceCtorEq, gTp, gCons, gNil, ca_0, ca_1, ca_2, ca_3, ca_4, ca_5, ca_6, ca_7, ca_8, ca_9, ca_10, ca_11, ca_12, ca_13, ca_14, ca_15, ca_16, ca_17, ca_18, ca_19, ca_20, ca_21, ca_22, ca_23, ca_24, ca_25, ca_26, ca_27, ca_28, ca_29, ca_30, not_true_eq_false, not_false_eq_true, Int.reduceEq, Nat.reduceEqDiff, Nat.reduceLeDiff, rGcd, V.ty.injEq, eq_self, List.not_mem_nil, beq_self_eq_true, HO.lst.injEq, HO.tup.injEq, tFor_eq, iRng1, iList, iTup, nat10, tSeq, rIxA, rSetA, rIsN, rIsT, tTp, tLs, itsO_tup, itsO_lst, tyO_tup, tyO_lst, tyO_dK, tyN_non, tyN_bl, tyN_int, tyN_str, tyN_ref, tyNs_lt, isB, upd_same, upd_upd, sizeLine_eq, List.mem_cons, String.reduceBEq, String.reduceEq, Bool.or_false, Bool.or_true, Bool.and_false, Bool.false_or, Bool.and_self, Bool.false_and, Bool.not_false, Bool.not_true, List.any_cons, List.any_nil, atI_0, setI_0, atI_1, setI_1, atI_2, setI_2, atI_3, setI_3, atI_4, setI_4, atI_5, setI_5, atI_6, setI_6, tAsg, gName, tOp, tUn, tVar, tC, tCons, L2.tNil, tRet, tIfS, tTest, tCB, tCall, rI, rI0, rU, tNext, tB, tAnd, tOr, tNot, tAndV, tOrV, tNotV, tDrop, tIf, tPar, gSub, rIxL, rIxT, rEq, rNe, rSetL, tBits,
    L2.start, List.map_cons, List.map_nil, List.cons_append, List.nil_append, List.append_nil, List.length_cons, List.length_nil, List.replicate, Nat.reduceAdd, Nat.reduceSub, Nat.zero_add, List.getElem?_cons_zero, List.getElem?_cons_succ, List.set_cons_zero, List.set_cons_succ,
    Option.some.injEq, exists_eq_left', exists_eq_left, V.int.injEq, V.bl.injEq, V.ref.injEq, V.str.injEq, List.cons.injEq, reduceCtorEq, and_true, true_and, false_and, and_false, exists_false, or_false, false_or, or_true, true_or, exists_const, CMul, CDiv, CPow, and_assoc, exists_and_left, exists_and_right, Int.reducePow, Int.reduceNeg, Int.reduceLT, Int.reduceLE, Nat.reducePow, Nat.reduceLT, Int.reduceToNat, gt_iff_lt, ge_iff_le, decide_eq_true_eq, Bool.not_eq_true', decide_eq_false_iff_not, scal, ↓reduceIte, Bool.false_eq_true]
  refine ⟨hq.nf.ne, _, _, rfl, hq.sz.2, fun z hz => ?_⟩
  rw [is_unique hq.nf.ne (hz.2 hq.nf.ne) (is_self (nf_part hq.nf))]
  exact k
abbrev sLOffset : Stmt := topS 35
theorem scLOffset : FnScope ["_law_value_here", "_law_top"] ["_law_value_here"] (defScope sLOffset) := ⟨rfl, rfl, rfl, by decide +kernel, rfl, by decide +kernel, by decide +kernel⟩
theorem k_LOffset (T : Bt K mg) (D : Dfn K mg "_law_offset" sLOffset ["_law_value_here"]) (d__law_lowest : Kn P w K mg base 2 "_law_lowest" ["_law_top", "_law_bottom"] (spLowest K)) : Kn P w K mg base 3 "_law_offset" ["_law_value_here"] (spUn K off) := by
  refine Kn.mk' D scLOffset (fun vs H Q E h => ?_) (fun f cdv A outer s H vs Q E hr h => ?_)
  · obtain ⟨a, q, rfl, _⟩ := h
    rfl
  obtain ⟨a, q, rfl, hq, k⟩ := h
  refine ⟨_, (pss_cons (ps_set (i := 1) scLOffset.nd rfl (.inl rfl) (pe_op op_modN (pe_callTy call_int1 (by rfl) T.b_int (by decide +kernel) (pa_cons (pe_ix ix_any (pv 0) pe_int (fun _ _ => rfl)) pa_nil)) (pe_ix ix_any (pv 0) pe_int (fun _ _ => rfl))))
      (pss_cons (ps_if (pt_cmpR op_gt (pe_op op_mul pe_int (pv 1)) (pe_ix ix_any (pv 0) pe_int (fun _ _ => rfl)) (nomark _)) (pss_one (ps_set (i := 1) scLOffset.nd rfl (.inl rfl) (pe_op op_sub (pv 1) (pe_ix ix_any (pv 0) pe_int (fun _ _ => rfl))))) pss_nil)
      (pss_one (ps_ret (pe_kn d__law_lowest hr (by rfl) (pa_cons (pv 1) (pa_cons (pe_ix ix_any (pv 0) pe_int (fun _ _ => rfl)) pa_nil))))))), ?_⟩
  have fm : q.1.fmod q.2 = q.1 % q.2 := Int.fmod_eq_emod_of_nonneg _ (by have := hq.nf.1; omega)
  simp only [hq.o, fm, cx_K, decide_true, decide_false, reduceCtorEq, gTp, gCons, gNil, ca_0, ca_1, ca_2, ca_3, ca_4, ca_5, ca_6, ca_7, ca_8, ca_9, ca_10, ca_11, ca_12, ca_13, ca_14, ca_15, ca_16, ca_17, ca_18, ca_19, ca_20, ca_21, ca_22, ca_23, ca_24, ca_25, ca_26, ca_27, ca_28, ca_29, ca_30, not_true_eq_false, not_false_eq_true, Int.reduceEq, Nat.reduceEqDiff, Nat.reduceLeDiff, rGcd, V.ty.injEq, eq_self, List.not_mem_nil, beq_self_eq_true, HO.lst.injEq, HO.tup.injEq, tFor_eq, iRng1, iList, iTup, nat10, tSeq, rIxA, rSetA, rIsN, rIsT, tTp, tLs, itsO_tup, itsO_lst, tyO_tup, tyO_lst, tyO_dK, tyN_non, tyN_bl, tyN_int, tyN_str, tyN_ref, tyNs_lt, isB, upd_same, upd_upd, sizeLine_eq, List.mem_cons, String.reduceBEq, String.reduceEq, Bool.or_false, Bool.or_true, Bool.and_false, Bool.false_or, Bool.and_self, Bool.false_and, Bool.not_false, Bool.not_true, List.any_cons, List.any_nil, atI_0, setI_0, atI_1, setI_1, atI_2, setI_2, atI_3, setI_3, atI_4, setI_4, atI_5, setI_5, atI_6, setI_6, tAsg, gName, tOp, tUn, tVar, tC, tCons, L2.tNil, tRet, tIfS, tTest, tCB, tCall, rI, rI0, rU, tNext, tB, tAnd, tOr, tNot, tAndV, tOrV, tNotV, tDrop, tIf, tPar, gSub, rIxL, rIxT, rEq, rNe, rSetL, tBits,
    L2.start, List.map_cons, List.map_nil, List.cons_append, List.nil_append, List.append_nil, List.length_cons, List.length_nil, List.replicate, Nat.reduceAdd, Nat.reduceSub, Nat.zero_add, List.getElem?_cons_zero, List.getElem?_cons_succ, List.set_cons_zero, List.set_cons_succ,
    Option.some.injEq, exists_eq_left', exists_eq_left, V.int.injEq, V.bl.injEq, V.ref.injEq, V.str.injEq, List.cons.injEq, reduceCtorEq, and_true, true_and, false_and, and_false, exists_false, or_false, false_or, or_true, true_or, exists_const, CMul, CDiv, CPow, and_assoc, exists_and_left, exists_and_right, Int.reducePow, Int.reduceNeg, Int.reduceLT, Int.reduceLE, Nat.reducePow, Nat.reduceLT, Int.reduceToNat, gt_iff_lt, ge_iff_le, decide_eq_true_eq, Bool.not_eq_true', decide_eq_false_iff_not, scal, ↓reduceIte, Bool.false_eq_true]
  refine ⟨hq.nf.ne, ite2 (fun h => ?_) (fun h => ?_)⟩
  · have e : off q = (q.1 % q.2 - q.2, q.2) := by unfold off; rw [if_pos h]
    refine ⟨_, _, rfl, hq.sz.2, fun z hz => ?_⟩
    have nn := nf_off hq.nf
    rw [e] at nn k
    rw [is_unique hq.nf.ne (hz.2 hq.nf.ne) (is_self nn)]
    exact k
  · have e : off q = (q.1 % q.2, q.2) := by unfold off; rw [if_neg h]
    refine ⟨_, _, rfl, hq.sz.2, fun z hz => ?_⟩
    have nn := nf_off hq.nf
    rw [e] at nn k
    rw [is_unique hq.nf.ne (hz.2 hq.nf.ne) (is_self nn)]
    exact k
def spLFrac (K : PySem.W.Frag) : Sp := fun vs H Q _ => ∃ (a : Addr) (q : Qt), vs = [.ref a] ∧ Fq K H 8000 a q ∧ Q (.bl true) H
abbrev sLFrac : Stmt := topS 37
theorem scLFrac : FnScope ["_law_told"] ["_law_told"] (defScope sLFrac) := ⟨rfl, rfl, rfl, by decide +kernel, rfl, by decide +kernel, by decide +kernel⟩
theorem k_LFrac (T : Bt K mg) (D : Dfn K mg "_law_is_frac" sLFrac ["_law_told"]) (d__law_is_whole : Kn P w K mg base 1 "_law_is_whole" ["_law_told"] (spWhole K)) (d__law_gcd : Kn P w K mg base 1 "_law_gcd" ["_law_left", "_law_right"] spGcd) : Kn P w K mg base 2 "_law_is_frac" ["_law_told"] (spLFrac K) := by
  refine Kn.mk' D scLFrac (fun vs H Q E h => ?_) (fun f cdv A outer s H vs Q E hr h => ?_)
  · obtain ⟨a, q, rfl, _⟩ := h
    rfl
  obtain ⟨a, q, rfl, hq, k⟩ := h
  refine ⟨_, (pss_cons (ps_if (PW.pt (pw_or (pt_not (pt_val (pe_callB call_isN (by rfl) T.b_isinstance (by decide +kernel) (pa_cons (pv 0) (pa_cons (pe_bltn (v := .ty "tuple") (by rfl) T.b_tuple (by decide +kernel) rfl) pa_nil))))) (pw_or1 (pt_cmpR op_ne (pe_callB call_lenA (by rfl) T.b_len PySem.boot_len (pa_cons (pv 0) pa_nil)) pe_int (nomark _))))) (pss_one (ps_ret pe_bl)) pss_nil)
      (pss_cons (ps_if (PW.pt (pw_or (pt_not (pt_val (pe_kn d__law_is_whole hr (by rfl) (pa_cons (pe_ix ix_any (pv 0) pe_int (fun _ _ => rfl)) pa_nil)))) (pw_or1 (pt_not (pt_val (pe_kn d__law_is_whole hr (by rfl) (pa_cons (pe_ix ix_any (pv 0) pe_int (fun _ _ => rfl)) pa_nil))))))) (pss_one (ps_ret pe_bl)) pss_nil)
      (pss_one (ps_ret (pe_and (pe_cmpR op_gt (pe_ix ix_any (pv 0) pe_int (fun _ _ => rfl)) pe_int (nomark _)) (pe_one (pe_cmpR op_eq (pe_kn d__law_gcd hr (by rfl) (pa_cons (pe_ix ix_any (pv 0) pe_int (fun _ _ => rfl)) (pa_cons (pe_ix ix_any (pv 0) pe_int (fun _ _ => rfl)) pa_nil))) pe_int (nomark _)))))))), ?_⟩
  simp only [hq.o, cx_K, decide_true, decide_false, reduceCtorEq, gTp, gCons, gNil, ca_0, ca_1, ca_2, ca_3, ca_4, ca_5, ca_6, ca_7, ca_8, ca_9, ca_10, ca_11, ca_12, ca_13, ca_14, ca_15, ca_16, ca_17, ca_18, ca_19, ca_20, ca_21, ca_22, ca_23, ca_24, ca_25, ca_26, ca_27, ca_28, ca_29, ca_30, not_true_eq_false, not_false_eq_true, Int.reduceEq, Nat.reduceEqDiff, Nat.reduceLeDiff, rGcd, V.ty.injEq, eq_self, List.not_mem_nil, beq_self_eq_true, HO.lst.injEq, HO.tup.injEq, tFor_eq, iRng1, iList, iTup, nat10, tSeq, rIxA, rSetA, rIsN, rIsT, tTp, tLs, itsO_tup, itsO_lst, tyO_tup, tyO_lst, tyO_dK, tyN_non, tyN_bl, tyN_int, tyN_str, tyN_ref, tyNs_lt, isB, upd_same, upd_upd, sizeLine_eq, List.mem_cons, String.reduceBEq, String.reduceEq, Bool.or_false, Bool.or_true, Bool.and_false, Bool.false_or, Bool.and_self, Bool.false_and, Bool.not_false, Bool.not_true, List.any_cons, List.any_nil, atI_0, setI_0, atI_1, setI_1, atI_2, setI_2, atI_3, setI_3, atI_4, setI_4, atI_5, setI_5, atI_6, setI_6, tAsg, gName, tOp, tUn, tVar, tC, tCons, L2.tNil, tRet, tIfS, tTest, tCB, tCall, rI, rI0, rU, tNext, tB, tAnd, tOr, tNot, tAndV, tOrV, tNotV, tDrop, tIf, tPar, gSub, rIxL, rIxT, rEq, rNe, rSetL, tBits,
    L2.start, List.map_cons, List.map_nil, List.cons_append, List.nil_append, List.append_nil, List.length_cons, List.length_nil, List.replicate, Nat.reduceAdd, Nat.reduceSub, Nat.zero_add, List.getElem?_cons_zero, List.getElem?_cons_succ, List.set_cons_zero, List.set_cons_succ,
    Option.some.injEq, exists_eq_left', exists_eq_left, V.int.injEq, V.bl.injEq, V.ref.injEq, V.str.injEq, List.cons.injEq, reduceCtorEq, and_true, true_and, false_and, and_false, exists_false, or_false, false_or, or_true, true_or, exists_const, CMul, CDiv, CPow, and_assoc, exists_and_left, exists_and_right, Int.reducePow, Int.reduceNeg, Int.reduceLT, Int.reduceLE, Nat.reducePow, Nat.reduceLT, Int.reduceToNat, gt_iff_lt, ge_iff_le, decide_eq_true_eq, Bool.not_eq_true', decide_eq_false_iff_not, scal, ↓reduceIte, Bool.false_eq_true]
  refine ⟨_, rfl, rfl, true, rfl, ?_⟩
  rw [if_neg Bool.noConfusion]
  simp only [hq.o, cx_K, decide_true, decide_false, reduceCtorEq, gTp, gCons, gNil, ca_0, ca_1, ca_2, ca_3, ca_4, ca_5, ca_6, ca_7, ca_8, ca_9, ca_10, ca_11, ca_12, ca_13, ca_14, ca_15, ca_16, ca_17, ca_18, ca_19, ca_20, ca_21, ca_22, ca_23, ca_24, ca_25, ca_26, ca_27, ca_28, ca_29, ca_30, not_true_eq_false, not_false_eq_true, Int.reduceEq, Nat.reduceEqDiff, Nat.reduceLeDiff, rGcd, V.ty.injEq, eq_self, List.not_mem_nil, beq_self_eq_true, HO.lst.injEq, HO.tup.injEq, tFor_eq, iRng1, iList, iTup, nat10, tSeq, rIxA, rSetA, rIsN, rIsT, tTp, tLs, itsO_tup, itsO_lst, tyO_tup, tyO_lst, tyO_dK, tyN_non, tyN_bl, tyN_int, tyN_str, tyN_ref, tyNs_lt, isB, upd_same, upd_upd, sizeLine_eq, List.mem_cons, String.reduceBEq, String.reduceEq, Bool.or_false, Bool.or_true, Bool.and_false, Bool.false_or, Bool.and_self, Bool.false_and, Bool.not_false, Bool.not_true, List.any_cons, List.any_nil, atI_0, setI_0, atI_1, setI_1, atI_2, setI_2, atI_3, setI_3, atI_4, setI_4, atI_5, setI_5, atI_6, setI_6, tAsg, gName, tOp, tUn, tVar, tC, tCons, L2.tNil, tRet, tIfS, tTest, tCB, tCall, rI, rI0, rU, tNext, tB, tAnd, tOr, tNot, tAndV, tOrV, tNotV, tDrop, tIf, tPar, gSub, rIxL, rIxT, rEq, rNe, rSetL, tBits,
    L2.start, List.map_cons, List.map_nil, List.cons_append, List.nil_append, List.append_nil, List.length_cons, List.length_nil, List.replicate, Nat.reduceAdd, Nat.reduceSub, Nat.zero_add, List.getElem?_cons_zero, List.getElem?_cons_succ, List.set_cons_zero, List.set_cons_succ,
    Option.some.injEq, exists_eq_left', exists_eq_left, V.int.injEq, V.bl.injEq, V.ref.injEq, V.str.injEq, List.cons.injEq, reduceCtorEq, and_true, true_and, false_and, and_false, exists_false, or_false, false_or, or_true, true_or, exists_const, CMul, CDiv, CPow, and_assoc, exists_and_left, exists_and_right, Int.reducePow, Int.reduceNeg, Int.reduceLT, Int.reduceLE, Nat.reducePow, Nat.reduceLT, Int.reduceToNat, gt_iff_lt, ge_iff_le, decide_eq_true_eq, Bool.not_eq_true', decide_eq_false_iff_not, scal, ↓reduceIte, Bool.false_eq_true]
  refine ⟨_, rfl, rfl, true, rfl, ?_⟩
  rw [if_neg Bool.noConfusion]
  simp only [hq.o, cx_K, decide_true, decide_false, reduceCtorEq, gTp, gCons, gNil, ca_0, ca_1, ca_2, ca_3, ca_4, ca_5, ca_6, ca_7, ca_8, ca_9, ca_10, ca_11, ca_12, ca_13, ca_14, ca_15, ca_16, ca_17, ca_18, ca_19, ca_20, ca_21, ca_22, ca_23, ca_24, ca_25, ca_26, ca_27, ca_28, ca_29, ca_30, not_true_eq_false, not_false_eq_true, Int.reduceEq, Nat.reduceEqDiff, Nat.reduceLeDiff, rGcd, V.ty.injEq, eq_self, List.not_mem_nil, beq_self_eq_true, HO.lst.injEq, HO.tup.injEq, tFor_eq, iRng1, iList, iTup, nat10, tSeq, rIxA, rSetA, rIsN, rIsT, tTp, tLs, itsO_tup, itsO_lst, tyO_tup, tyO_lst, tyO_dK, tyN_non, tyN_bl, tyN_int, tyN_str, tyN_ref, tyNs_lt, isB, upd_same, upd_upd, sizeLine_eq, List.mem_cons, String.reduceBEq, String.reduceEq, Bool.or_false, Bool.or_true, Bool.and_false, Bool.false_or, Bool.and_self, Bool.false_and, Bool.not_false, Bool.not_true, List.any_cons, List.any_nil, atI_0, setI_0, atI_1, setI_1, atI_2, setI_2, atI_3, setI_3, atI_4, setI_4, atI_5, setI_5, atI_6, setI_6, tAsg, gName, tOp, tUn, tVar, tC, tCons, L2.tNil, tRet, tIfS, tTest, tCB, tCall, rI, rI0, rU, tNext, tB, tAnd, tOr, tNot, tAndV, tOrV, tNotV, tDrop, tIf, tPar, gSub, rIxL, rIxT, rEq, rNe, rSetL, tBits,
    L2.start, List.map_cons, List.map_nil, List.cons_append, List.nil_append, List.append_nil, List.length_cons, List.length_nil, List.replicate, Nat.reduceAdd, Nat.reduceSub, Nat.zero_add, List.getElem?_cons_zero, List.getElem?_cons_succ, List.set_cons_zero, List.set_cons_succ,
    Option.some.injEq, exists_eq_left', exists_eq_left, V.int.injEq, V.bl.injEq, V.ref.injEq, V.str.injEq, List.cons.injEq, reduceCtorEq, and_true, true_and, false_and, and_false, exists_false, or_false, false_or, or_true, true_or, exists_const, CMul, CDiv, CPow, and_assoc, exists_and_left, exists_and_right, Int.reducePow, Int.reduceNeg, Int.reduceLT, Int.reduceLE, Nat.reducePow, Nat.reduceLT, Int.reduceToNat, gt_iff_lt, ge_iff_le, decide_eq_true_eq, Bool.not_eq_true', decide_eq_false_iff_not, scal, ↓reduceIte, Bool.false_eq_true]
  rw [if_pos (show 0 < q.2 by have := hq.nf.1; omega)]
  refine ⟨_, _, rfl, rfl, ?_⟩
  have e : decide (V.int ((Int.gcd q.1 q.2 : Nat) : Int) = V.int 1) = true := by rw [hq.nf.2]; rfl
  rw [e]
  exact k
def spLFracs (K : PySem.W.Frag) : Sp := fun vs H Q _ => ∃ (l : Addr) (xs : List V), vs = [.ref l] ∧ H l = some (.lst xs) ∧ K.lookup l = none ∧ (∀ x ∈ xs, ∃ a q, x = .ref a ∧ Fq K H 8000 a q) ∧ Q (.bl true) H
def FracsI (l : Addr) (H : Hp) (_ : Nat) (σ : L2.St) (H' : Hp) : Prop := ∃ y, σ = [some (.ref l), y] ∧ H' = H
def spLeaves (K : PySem.W.Frag) : Sp := fun vs H Q _ => ∃ (a b : Addr) (p q : Qt), vs = [.ref a, .ref b] ∧ Fq K H 8000 a p ∧ Fq K H 8000 b q ∧ Q (.bl (decide (q.2 = p.2) && decide ((p.1 - q.1) % p.2 = 0))) H
abbrev sLFracs : Stmt := topS 38
theorem scLFracs : FnScope ["_law_told", "_law_value_here"] ["_law_told"] (defScope sLFracs) := ⟨rfl, rfl, rfl, by decide +kernel, rfl, by decide +kernel, by decide +kernel⟩
theorem k_LFracs (T : Bt K mg) (D : Dfn K mg "_law_is_fracs" sLFracs ["_law_told"]) (d__law_is_frac : Kn P w K mg base 2 "_law_is_frac" ["_law_told"] (spLFrac K)) : Kn P w K mg base 3 "_law_is_fracs" ["_law_told"] (spLFracs K) := by
  refine Kn.mk' D scLFracs (fun vs H Q E h => ?_) (fun f cdv A outer s H vs Q E hr h => ?_)
  · obtain ⟨l, xs, rfl, _⟩ := h
    rfl
  obtain ⟨l, xs, rfl, hl, kl, hx, k⟩ := h
  refine ⟨_, (pss_cons (ps_if (pt_not (pt_val (pe_callB call_isN (by rfl) T.b_isinstance (by decide +kernel) (pa_cons (pv 0) (pa_cons (pe_bltn (v := .ty "list") (by rfl) T.b_list (by decide +kernel) rfl) pa_nil))))) (pss_one (ps_ret pe_bl)) pss_nil)
      (pss_cons (ps_for PassesOwn.never rfl (pi_list (pv 0)) (pg_name (i := 1) scLFracs.nd rfl (.inl rfl)) (pss_one (ps_if (pt_not (pt_val (pe_kn d__law_is_frac hr (by rfl) (pa_cons (pv 1) pa_nil)))) (pss_one (ps_ret pe_bl)) pss_nil)))
      (pss_one (ps_ret pe_bl)))), ?_⟩
  have o := (ob_none kl).trans hl
  simp only [o, cx_K, decide_true, decide_false, reduceCtorEq, gTp, gCons, gNil, ca_0, ca_1, ca_2, ca_3, ca_4, ca_5, ca_6, ca_7, ca_8, ca_9, ca_10, ca_11, ca_12, ca_13, ca_14, ca_15, ca_16, ca_17, ca_18, ca_19, ca_20, ca_21, ca_22, ca_23, ca_24, ca_25, ca_26, ca_27, ca_28, ca_29, ca_30, not_true_eq_false, not_false_eq_true, Int.reduceEq, Nat.reduceEqDiff, Nat.reduceLeDiff, rGcd, V.ty.injEq, eq_self, List.not_mem_nil, beq_self_eq_true, HO.lst.injEq, HO.tup.injEq, tFor_eq, iRng1, iList, iTup, nat10, tSeq, rIxA, rSetA, rIsN, rIsT, tTp, tLs, itsO_tup, itsO_lst, tyO_tup, tyO_lst, tyO_dK, tyN_non, tyN_bl, tyN_int, tyN_str, tyN_ref, tyNs_lt, isB, upd_same, upd_upd, sizeLine_eq, List.mem_cons, String.reduceBEq, String.reduceEq, Bool.or_false, Bool.or_true, Bool.and_false, Bool.false_or, Bool.and_self, Bool.false_and, Bool.not_false, Bool.not_true, List.any_cons, List.any_nil, atI_0, setI_0, atI_1, setI_1, atI_2, setI_2, atI_3, setI_3, atI_4, setI_4, atI_5, setI_5, atI_6, setI_6, tAsg, gName, tOp, tUn, tVar, tC, tCons, L2.tNil, tRet, tIfS, tTest, tCB, tCall, rI, rI0, rU, tNext, tB, tAnd, tOr, tNot, tAndV, tOrV, tNotV, tDrop, tIf, tPar, gSub, rIxL, rIxT, rEq, rNe, rSetL, tBits,
    L2.start, List.map_cons, List.map_nil, List.cons_append, List.nil_append, List.append_nil, List.length_cons, List.length_nil, List.replicate, Nat.reduceAdd, Nat.reduceSub, Nat.zero_add, List.getElem?_cons_zero, List.getElem?_cons_succ, List.set_cons_zero, List.set_cons_succ,
    Option.some.injEq, exists_eq_left', exists_eq_left, V.int.injEq, V.bl.injEq, V.ref.injEq, V.str.injEq, List.cons.injEq, reduceCtorEq, and_true, true_and, false_and, and_false, exists_false, or_false, false_or, or_true, true_or, exists_const, CMul, CDiv, CPow, and_assoc, exists_and_left, exists_and_right, Int.reducePow, Int.reduceNeg, Int.reduceLT, Int.reduceLE, Nat.reducePow, Nat.reduceLT, Int.reduceToNat, gt_iff_lt, ge_iff_le, decide_eq_true_eq, Bool.not_eq_true', decide_eq_false_iff_not, scal, ↓reduceIte, Bool.false_eq_true]
  refine ⟨⟨xs, .of hl⟩, forI_list (xs := xs) (FracsI l H) ⟨none, rfl, rfl⟩ ?_ ?_ ?_⟩
  · rintro i σ H' _ ⟨y, rfl, rfl⟩
    exact .of hl
  · rintro i x σ H' hi ⟨y, rfl, rfl⟩
    obtain ⟨a, q, rfl, hq⟩ := hx x (List.mem_of_getElem? hi)
    simp only [cx_K, decide_true, decide_false, reduceCtorEq, gTp, gCons, gNil, ca_0, ca_1, ca_2, ca_3, ca_4, ca_5, ca_6, ca_7, ca_8, ca_9, ca_10, ca_11, ca_12, ca_13, ca_14, ca_15, ca_16, ca_17, ca_18, ca_19, ca_20, ca_21, ca_22, ca_23, ca_24, ca_25, ca_26, ca_27, ca_28, ca_29, ca_30, not_true_eq_false, not_false_eq_true, Int.reduceEq, Nat.reduceEqDiff, Nat.reduceLeDiff, rGcd, V.ty.injEq, eq_self, List.not_mem_nil, beq_self_eq_true, HO.lst.injEq, HO.tup.injEq, tFor_eq, iRng1, iList, iTup, nat10, tSeq, rIxA, rSetA, rIsN, rIsT, tTp, tLs, itsO_tup, itsO_lst, tyO_tup, tyO_lst, tyO_dK, tyN_non, tyN_bl, tyN_int, tyN_str, tyN_ref, tyNs_lt, isB, upd_same, upd_upd, sizeLine_eq, List.mem_cons, String.reduceBEq, String.reduceEq, Bool.or_false, Bool.or_true, Bool.and_false, Bool.false_or, Bool.and_self, Bool.false_and, Bool.not_false, Bool.not_true, List.any_cons, List.any_nil, atI_0, setI_0, atI_1, setI_1, atI_2, setI_2, atI_3, setI_3, atI_4, setI_4, atI_5, setI_5, atI_6, setI_6, tAsg, gName, tOp, tUn, tVar, tC, tCons, L2.tNil, tRet, tIfS, tTest, tCB, tCall, rI, rI0, rU, tNext, tB, tAnd, tOr, tNot, tAndV, tOrV, tNotV, tDrop, tIf, tPar, gSub, rIxL, rIxT, rEq, rNe, rSetL, tBits,
    L2.start, List.map_cons, List.map_nil, List.cons_append, List.nil_append, List.append_nil, List.length_cons, List.length_nil, List.replicate, Nat.reduceAdd, Nat.reduceSub, Nat.zero_add, List.getElem?_cons_zero, List.getElem?_cons_succ, List.set_cons_zero, List.set_cons_succ,
    Option.some.injEq, exists_eq_left', exists_eq_left, V.int.injEq, V.bl.injEq, V.ref.injEq, V.str.injEq, List.cons.injEq, reduceCtorEq, and_true, true_and, false_and, and_false, exists_false, or_false, false_or, or_true, true_or, exists_const, CMul, CDiv, CPow, and_assoc, exists_and_left, exists_and_right, Int.reducePow, Int.reduceNeg, Int.reduceLT, Int.reduceLE, Nat.reducePow, Nat.reduceLT, Int.reduceToNat, gt_iff_lt, ge_iff_le, decide_eq_true_eq, Bool.not_eq_true', decide_eq_false_iff_not, scal, ↓reduceIte, Bool.false_eq_true]
    exact ⟨a, q, rfl, hq, true, rfl, _, rfl, rfl⟩
  · rintro σ H' ⟨y, rfl, rfl⟩
    simp only [cx_K, decide_true, decide_false, reduceCtorEq, gTp, gCons, gNil, ca_0, ca_1, ca_2, ca_3, ca_4, ca_5, ca_6, ca_7, ca_8, ca_9, ca_10, ca_11, ca_12, ca_13, ca_14, ca_15, ca_16, ca_17, ca_18, ca_19, ca_20, ca_21, ca_22, ca_23, ca_24, ca_25, ca_26, ca_27, ca_28, ca_29, ca_30, not_true_eq_false, not_false_eq_true, Int.reduceEq, Nat.reduceEqDiff, Nat.reduceLeDiff, rGcd, V.ty.injEq, eq_self, List.not_mem_nil, beq_self_eq_true, HO.lst.injEq, HO.tup.injEq, tFor_eq, iRng1, iList, iTup, nat10, tSeq, rIxA, rSetA, rIsN, rIsT, tTp, tLs, itsO_tup, itsO_lst, tyO_tup, tyO_lst, tyO_dK, tyN_non, tyN_bl, tyN_int, tyN_str, tyN_ref, tyNs_lt, isB, upd_same, upd_upd, sizeLine_eq, List.mem_cons, String.reduceBEq, String.reduceEq, Bool.or_false, Bool.or_true, Bool.and_false, Bool.false_or, Bool.and_self, Bool.false_and, Bool.not_false, Bool.not_true, List.any_cons, List.any_nil, atI_0, setI_0, atI_1, setI_1, atI_2, setI_2, atI_3, setI_3, atI_4, setI_4, atI_5, setI_5, atI_6, setI_6, tAsg, gName, tOp, tUn, tVar, tC, tCons, L2.tNil, tRet, tIfS, tTest, tCB, tCall, rI, rI0, rU, tNext, tB, tAnd, tOr, tNot, tAndV, tOrV, tNotV, tDrop, tIf, tPar, gSub, rIxL, rIxT, rEq, rNe, rSetL, tBits,
    L2.start, List.map_cons, List.map_nil, List.cons_append, List.nil_append, List.append_nil, List.length_cons, List.length_nil, List.replicate, Nat.reduceAdd, Nat.reduceSub, Nat.zero_add, List.getElem?_cons_zero, List.getElem?_cons_succ, List.set_cons_zero, List.set_cons_succ,
    Option.some.injEq, exists_eq_left', exists_eq_left, V.int.injEq, V.bl.injEq, V.ref.injEq, V.str.injEq, List.cons.injEq, reduceCtorEq, and_true, true_and, false_and, and_false, exists_false, or_false, false_or, or_true, true_or, exists_const, CMul, CDiv, CPow, and_assoc, exists_and_left, exists_and_right, Int.reducePow, Int.reduceNeg, Int.reduceLT, Int.reduceLE, Nat.reducePow, Nat.reduceLT, Int.reduceToNat, gt_iff_lt, ge_iff_le, decide_eq_true_eq, Bool.not_eq_true', decide_eq_false_iff_not, scal, ↓reduceIte, Bool.false_eq_true]
    exact k
abbrev sLeaves : Stmt := topS 47
theorem scLeaves : FnScope ["_law_value_here", "_law_rest"] ["_law_value_here", "_law_rest"] (defScope sLeaves) := ⟨rfl, rfl, rfl, by decide +kernel, rfl, by decide +kernel, by decide +kernel⟩
theorem k_Leaves (T : Bt K mg) (D : Dfn K mg "_law_leaves_whole" sLeaves ["_law_value_here", "_law_rest"]) : Kn P w K mg base 1 "_law_leaves_whole" ["_law_value_here", "_law_rest"] (spLeaves K) := by
  refine Kn.mk' D scLeaves (fun vs H Q E h => ?_) (fun f cdv A outer s H vs Q E hr h => ?_)
  · obtain ⟨a, b, p, q, rfl, _⟩ := h
    rfl
  obtain ⟨a, b, p, q, rfl, hp, hq, k⟩ := h
  refine ⟨_, (pss_one (ps_ret (pe_and (pe_cmpR op_eq (pe_ix ix_any (pv 1) pe_int (fun _ _ => rfl)) (pe_ix ix_any (pv 0) pe_int (fun _ _ => rfl)) (nomark _)) (pe_one (pe_cmpR op_eq (pe_op op_modN (pe_callTy call_int1 (by rfl) T.b_int (by decide +kernel) (pa_cons (pe_op op_sub (pe_ix ix_any (pv 0) pe_int (fun _ _ => rfl)) (pe_ix ix_any (pv 1) pe_int (fun _ _ => rfl))) pa_nil)) (pe_ix ix_any (pv 0) pe_int (fun _ _ => rfl))) pe_int (nomark _)))))), ?_⟩
  have fm : (p.1 - q.1).fmod p.2 = (p.1 - q.1) % p.2 := Int.fmod_eq_emod_of_nonneg _ (by have := hp.nf.1; omega)
  simp only [hp.o, hq.o, fm, cx_K, decide_true, decide_false, reduceCtorEq, gTp, gCons, gNil, ca_0, ca_1, ca_2, ca_3, ca_4, ca_5, ca_6, ca_7, ca_8, ca_9, ca_10, ca_11, ca_12, ca_13, ca_14, ca_15, ca_16, ca_17, ca_18, ca_19, ca_20, ca_21, ca_22, ca_23, ca_24, ca_25, ca_26, ca_27, ca_28, ca_29, ca_30, not_true_eq_false, not_false_eq_true, Int.reduceEq, Nat.reduceEqDiff, Nat.reduceLeDiff, rGcd, V.ty.injEq, eq_self, List.not_mem_nil, beq_self_eq_true, HO.lst.injEq, HO.tup.injEq, tFor_eq, iRng1, iList, iTup, nat10, tSeq, rIxA, rSetA, rIsN, rIsT, tTp, tLs, itsO_tup, itsO_lst, tyO_tup, tyO_lst, tyO_dK, tyN_non, tyN_bl, tyN_int, tyN_str, tyN_ref, tyNs_lt, isB, upd_same, upd_upd, sizeLine_eq, List.mem_cons, String.reduceBEq, String.reduceEq, Bool.or_false, Bool.or_true, Bool.and_false, Bool.false_or, Bool.and_self, Bool.false_and, Bool.not_false, Bool.not_true, List.any_cons, List.any_nil, atI_0, setI_0, atI_1, setI_1, atI_2, setI_2, atI_3, setI_3, atI_4, setI_4, atI_5, setI_5, atI_6, setI_6, tAsg, gName, tOp, tUn, tVar, tC, tCons, L2.tNil, tRet, tIfS, tTest, tCB, tCall, rI, rI0, rU, tNext, tB, tAnd, tOr, tNot, tAndV, tOrV, tNotV, tDrop, tIf, tPar, gSub, rIxL, rIxT, rEq, rNe, rSetL, tBits,
    L2.start, List.map_cons, List.map_nil, List.cons_append, List.nil_append, List.append_nil, List.length_cons, List.length_nil, List.replicate, Nat.reduceAdd, Nat.reduceSub, Nat.zero_add, List.getElem?_cons_zero, List.getElem?_cons_succ, List.set_cons_zero, List.set_cons_succ,
    Option.some.injEq, exists_eq_left', exists_eq_left, V.int.injEq, V.bl.injEq, V.ref.injEq, V.str.injEq, List.cons.injEq, reduceCtorEq, and_true, true_and, false_and, and_false, exists_false, or_false, false_or, or_true, true_or, exists_const, CMul, CDiv, CPow, and_assoc, exists_and_left, exists_and_right, Int.reducePow, Int.reduceNeg, Int.reduceLT, Int.reduceLE, Nat.reducePow, Nat.reduceLT, Int.reduceToNat, gt_iff_lt, ge_iff_le, decide_eq_true_eq, Bool.not_eq_true', decide_eq_false_iff_not, scal, ↓reduceIte, Bool.false_eq_true]
  refine ite2 (fun h => ?_) (fun h => ?_)
  · rw [decide_eq_true h, Bool.true_and] at k
    exact ⟨hp.nf.ne, k⟩
  · rw [decide_eq_false h, Bool.false_and] at k
    exact k
end
end My

namespace My
open PySem PySem.Spec PyProof.Rows L2
section
variable {P : Program} {w : World} {K : PySem.W.Frag} {mg : Str → Option Value} {base : Heap}
/-- an int that the draws gave; all but the store stands -/
def spPick (K : PySem.W.Frag) : Sp := fun vs H Q _ => ∃ (s r : Addr) (xs : List V), vs = [.ref s, .ref r] ∧ Sto K H s ∧ H r = some (.lst xs) ∧ s ≠ r ∧ 0 < xs.length ∧ xs.length < 1000 ∧ ∀ x H', x ∈ xs → Kp s H H' → Sto K H' s → Q x H'
theorem at_mem {α : Type} {xs : List α} {i : Int} (h0 : 0 ≤ i) (h : i < (xs.length : Int)) : ∃ v ∈ xs, atI xs i = some v := by
  have hk : i.toNat < xs.length := by omega
  have q : atI xs ((i.toNat : Nat) : Int) = some xs[i.toNat] := atI_nat (List.getElem?_eq_getElem hk)
  rw [show ((i.toNat : Nat) : Int) = i by omega] at q
  exact ⟨_, List.getElem_mem hk, q⟩
theorem Sto.at {H : Hp} {s : Addr} (h : Sto K H s) : ∃ ys, H s = some (.lst ys) := by
  obtain ⟨sc, ns, i, b, c, d, e, f, h⟩ := h
  exact ⟨_, h.1⟩
theorem Kp.at {s : Addr} {H H' : Hp} {r : Addr} {o : HO} (e : Kp s H H') (n : s ≠ r) (h : H r = some o) : H' r = some o := e _ _ (Ne.symm n) h
abbrev sPick : Stmt := topS 30
theorem scPick : FnScope ["_law_store_here", "_law_row"] ["_law_store_here", "_law_row"] (defScope sPick) := ⟨rfl, rfl, rfl, by decide +kernel, rfl, by decide +kernel, by decide +kernel⟩
theorem k_Pick (T : Bt K mg) (D : Dfn K mg "_law_pick" sPick ["_law_store_here", "_law_row"]) (d__law_take : Kn P w K mg base 2 "_law_take" ["_law_store_here", "_law_many"] (spTake K)) : Kn P w K mg base 3 "_law_pick" ["_law_store_here", "_law_row"] (spPick K) := by
  refine Kn.mk' D scPick (fun vs H Q E h => ?_) (fun f cdv A outer s H vs Q E hr h => ?_)
  · obtain ⟨s, r, xs, rfl, _⟩ := h
    rfl
  obtain ⟨s, r, xs, rfl, hS, hr', ne, hl0, hl1, k⟩ := h
  refine ⟨_, (pss_one (ps_ret (pe_ix ix_list (pv 1) (pe_kn d__law_take hr (by rfl) (pa_cons (pv 0) (pa_cons (pe_callB call_len_seq (by rfl) T.b_len PySem.boot_len (pa_cons (pv 1) pa_nil)) pa_nil))) (fun _ _ => rfl)))), ?_⟩
  simp only [cx_K, decide_true, decide_false, reduceCtorEq, gTp, gCons, gNil, ca_0, ca_1, ca_2, ca_3, ca_4, ca_5, ca_6, ca_7, ca_8, ca_9, ca_10, ca_11, ca_12, ca_13, ca_14, ca_15, ca_16, ca_17, ca_18, ca_19, ca_20, ca_21, ca_22, ca_23, ca_24, ca_25, ca_26, ca_27, ca_28, ca_29, ca_30, not_true_eq_false, not_false_eq_true, Int.reduceEq, Nat.reduceEqDiff, Nat.reduceLeDiff, rGcd, V.ty.injEq, eq_self, List.not_mem_nil, beq_self_eq_true, HO.lst.injEq, HO.tup.injEq, tFor_eq, iRng1, iList, iTup, nat10, tSeq, rIxA, rSetA, rIsN, rIsT, tTp, tLs, itsO_tup, itsO_lst, tyO_tup, tyO_lst, tyO_dK, tyN_non, tyN_bl, tyN_int, tyN_str, tyN_ref, tyNs_lt, isB, upd_same, upd_upd, sizeLine_eq, List.mem_cons, String.reduceBEq, String.reduceEq, Bool.or_false, Bool.or_true, Bool.and_false, Bool.false_or, Bool.and_self, Bool.false_and, Bool.not_false, Bool.not_true, List.any_cons, List.any_nil, atI_0, setI_0, atI_1, setI_1, atI_2, setI_2, atI_3, setI_3, atI_4, setI_4, atI_5, setI_5, atI_6, setI_6, tAsg, gName, tOp, tUn, tVar, tC, tCons, L2.tNil, tRet, tIfS, tTest, tCB, tCall, rI, rI0, rU, tNext, tB, tAnd, tOr, tNot, tAndV, tOrV, tNotV, tDrop, tIf, tPar, gSub, rIxL, rIxT, rEq, rNe, rSetL, tBits,
    L2.start, List.map_cons, List.map_nil, List.cons_append, List.nil_append, List.append_nil, List.length_cons, List.length_nil, List.replicate, Nat.reduceAdd, Nat.reduceSub, Nat.zero_add, List.getElem?_cons_zero, List.getElem?_cons_succ, List.set_cons_zero, List.set_cons_succ,
    Option.some.injEq, exists_eq_left', exists_eq_left, V.int.injEq, V.bl.injEq, V.ref.injEq, V.str.injEq, List.cons.injEq, reduceCtorEq, and_true, true_and, false_and, and_false, exists_false, or_false, false_or, or_true, true_or, exists_const, CMul, CDiv, CPow, and_assoc, exists_and_left, exists_and_right, Int.reducePow, Int.reduceNeg, Int.reduceLT, Int.reduceLE, Nat.reducePow, Nat.reduceLT, Int.reduceToNat, gt_iff_lt, ge_iff_le, decide_eq_true_eq, Bool.not_eq_true', decide_eq_false_iff_not, scal, ↓reduceIte, Bool.false_eq_true]
  refine ⟨xs, .inl (.of hr'), s, _, rfl, hS, by omega, fun i H' h0 h1 kp st => ?_⟩
  obtain ⟨v, hv, e⟩ := at_mem (xs := xs) (i := i) h0 (by omega)
  exact ⟨xs, i, rfl, .of (kp.at ne hr'), v, e, k v H' hv kp st⟩
def spInt (K : PySem.W.Frag) (R : Int → Prop) : Sp := fun vs H Q _ => ∃ (s : Addr), vs = [.ref s] ∧ Sto K H s ∧ ∀ n H', R n → Kp s H H' → Sto K H' s → Q (.int n) H'
def spLInt (K : PySem.W.Frag) : Sp := fun vs H Q _ => ∃ (s : Addr) (r : Int), vs = [.ref s, .int r] ∧ Sto K H s ∧ 1 ≤ r ∧ r < 2 ^ 190 ∧ ∀ n H', -r ≤ n → n ≤ r → Kp s H H' → Sto K H' s → Q (.int n) H'
theorem menu {xs : List V} {i : Int} {R : V → Prop} (h0 : 0 ≤ i) (h : i < (xs.length : Int)) (k : ∀ v ∈ xs, R v) : ∃ v, atI xs i = some v ∧ R v := by
  obtain ⟨v, hv, e⟩ := at_mem h0 h
  exact ⟨v, e, k v hv⟩
abbrev sLInt : Stmt := topS 40
theorem scLInt : FnScope ["_law_store_here", "_law_reach", "_law_spot"] ["_law_store_here", "_law_reach"] (defScope sLInt) := ⟨rfl, rfl, rfl, by decide +kernel, rfl, by decide +kernel, by decide +kernel⟩
theorem k_LInt (T : Bt K mg) (D : Dfn K mg "_law_whole" sLInt ["_law_store_here", "_law_reach"]) (d__law_take : Kn P w K mg base 2 "_law_take" ["_law_store_here", "_law_many"] (spTake K)) : Kn P w K mg base 3 "_law_whole" ["_law_store_here", "_law_reach"] (spLInt K) := by
  refine Kn.mk' D scLInt (fun vs H Q E h => ?_) (fun f cdv A outer s H vs Q E hr h => ?_)
  · obtain ⟨s, r, rfl, _⟩ := h
    rfl
  obtain ⟨s, r, rfl, hS, hr1, hr2, k⟩ := h
  refine ⟨_, (pss_cons (ps_set (i := 2) scLInt.nd rfl (.inl rfl) (pe_kn d__law_take hr (by rfl) (pa_cons (pv 0) (pa_cons pe_int pa_nil))))
      (pss_cons (ps_if (pt_cmpR op_lt (pv 2) pe_int (nomark _)) (pss_one (ps_ret (pe_ix ix_any (pe_ls (pa_cons pe_int (pa_cons (pe_callB (call_min2 rfl) (by rfl) T.b_min (by decide +kernel) (pa_cons pe_int (pa_cons (pv 1) pa_nil))) (pa_cons (pe_un un_neg (pe_callB (call_min2 rfl) (by rfl) T.b_min (by decide +kernel) (pa_cons pe_int (pa_cons (pv 1) pa_nil)))) (pa_cons (pv 1) (pa_cons (pe_un un_neg (pv 1)) pa_nil)))))) (pv 2) (fun _ _ => rfl)))) pss_nil)
      (pss_one (ps_ret (pe_op op_sub (pe_kn d__law_take hr (by rfl) (pa_cons (pv 0) (pa_cons (pe_op op_add (pe_op op_mul pe_int (pv 1)) pe_int) pa_nil))) (pv 1)))))), ?_⟩
  simp only [cx_K, decide_true, decide_false, reduceCtorEq, gTp, gCons, gNil, ca_0, ca_1, ca_2, ca_3, ca_4, ca_5, ca_6, ca_7, ca_8, ca_9, ca_10, ca_11, ca_12, ca_13, ca_14, ca_15, ca_16, ca_17, ca_18, ca_19, ca_20, ca_21, ca_22, ca_23, ca_24, ca_25, ca_26, ca_27, ca_28, ca_29, ca_30, not_true_eq_false, not_false_eq_true, Int.reduceEq, Nat.reduceEqDiff, Nat.reduceLeDiff, rGcd, V.ty.injEq, eq_self, List.not_mem_nil, beq_self_eq_true, HO.lst.injEq, HO.tup.injEq, tFor_eq, iRng1, iList, iTup, nat10, tSeq, rIxA, rSetA, rIsN, rIsT, tTp, tLs, itsO_tup, itsO_lst, tyO_tup, tyO_lst, tyO_dK, tyN_non, tyN_bl, tyN_int, tyN_str, tyN_ref, tyNs_lt, isB, upd_same, upd_upd, sizeLine_eq, List.mem_cons, String.reduceBEq, String.reduceEq, Bool.or_false, Bool.or_true, Bool.and_false, Bool.false_or, Bool.and_self, Bool.false_and, Bool.not_false, Bool.not_true, List.any_cons, List.any_nil, atI_0, setI_0, atI_1, setI_1, atI_2, setI_2, atI_3, setI_3, atI_4, setI_4, atI_5, setI_5, atI_6, setI_6, tAsg, gName, tOp, tUn, tVar, tC, tCons, L2.tNil, tRet, tIfS, tTest, tCB, tCall, rI, rI0, rU, tNext, tB, tAnd, tOr, tNot, tAndV, tOrV, tNotV, tDrop, tIf, tPar, gSub, rIxL, rIxT, rEq, rNe, rSetL, tBits,
    L2.start, List.map_cons, List.map_nil, List.cons_append, List.nil_append, List.append_nil, List.length_cons, List.length_nil, List.replicate, Nat.reduceAdd, Nat.reduceSub, Nat.zero_add, List.getElem?_cons_zero, List.getElem?_cons_succ, List.set_cons_zero, List.set_cons_succ,
    Option.some.injEq, exists_eq_left', exists_eq_left, V.int.injEq, V.bl.injEq, V.ref.injEq, V.str.injEq, List.cons.injEq, reduceCtorEq, and_true, true_and, false_and, and_false, exists_false, or_false, false_or, or_true, true_or, exists_const, CMul, CDiv, CPow, and_assoc, exists_and_left, exists_and_right, Int.reducePow, Int.reduceNeg, Int.reduceLT, Int.reduceLE, Nat.reducePow, Nat.reduceLT, Int.reduceToNat, gt_iff_lt, ge_iff_le, decide_eq_true_eq, Bool.not_eq_true', decide_eq_false_iff_not, scal, ↓reduceIte, Bool.false_eq_true]
  refine ⟨s, 12, rfl, hS, by omega, fun i H1 h0 h1 kp st => ?_⟩
  simp only [cx_K, decide_true, decide_false, reduceCtorEq, gTp, gCons, gNil, ca_0, ca_1, ca_2, ca_3, ca_4, ca_5, ca_6, ca_7, ca_8, ca_9, ca_10, ca_11, ca_12, ca_13, ca_14, ca_15, ca_16, ca_17, ca_18, ca_19, ca_20, ca_21, ca_22, ca_23, ca_24, ca_25, ca_26, ca_27, ca_28, ca_29, ca_30, not_true_eq_false, not_false_eq_true, Int.reduceEq, Nat.reduceEqDiff, Nat.reduceLeDiff, rGcd, V.ty.injEq, eq_self, List.not_mem_nil, beq_self_eq_true, HO.lst.injEq, HO.tup.injEq, tFor_eq, iRng1, iList, iTup, nat10, tSeq, rIxA, rSetA, rIsN, rIsT, tTp, tLs, itsO_tup, itsO_lst, tyO_tup, tyO_lst, tyO_dK, tyN_non, tyN_bl, tyN_int, tyN_str, tyN_ref, tyNs_lt, isB, upd_same, upd_upd, sizeLine_eq, List.mem_cons, String.reduceBEq, String.reduceEq, Bool.or_false, Bool.or_true, Bool.and_false, Bool.false_or, Bool.and_self, Bool.false_and, Bool.not_false, Bool.not_true, List.any_cons, List.any_nil, atI_0, setI_0, atI_1, setI_1, atI_2, setI_2, atI_3, setI_3, atI_4, setI_4, atI_5, setI_5, atI_6, setI_6, tAsg, gName, tOp, tUn, tVar, tC, tCons, L2.tNil, tRet, tIfS, tTest, tCB, tCall, rI, rI0, rU, tNext, tB, tAnd, tOr, tNot, tAndV, tOrV, tNotV, tDrop, tIf, tPar, gSub, rIxL, rIxT, rEq, rNe, rSetL, tBits,
    L2.start, List.map_cons, List.map_nil, List.cons_append, List.nil_append, List.append_nil, List.length_cons, List.length_nil, List.replicate, Nat.reduceAdd, Nat.reduceSub, Nat.zero_add, List.getElem?_cons_zero, List.getElem?_cons_succ, List.set_cons_zero, List.set_cons_succ,
    Option.some.injEq, exists_eq_left', exists_eq_left, V.int.injEq, V.bl.injEq, V.ref.injEq, V.str.injEq, List.cons.injEq, reduceCtorEq, and_true, true_and, false_and, and_false, exists_false, or_false, false_or, or_true, true_or, exists_const, CMul, CDiv, CPow, and_assoc, exists_and_left, exists_and_right, Int.reducePow, Int.reduceNeg, Int.reduceLT, Int.reduceLE, Nat.reducePow, Nat.reduceLT, Int.reduceToNat, gt_iff_lt, ge_iff_le, decide_eq_true_eq, Bool.not_eq_true', decide_eq_false_iff_not, scal, ↓reduceIte, Bool.false_eq_true]
  refine ite2 (fun h => ?_) (fun h => ?_)
  · intro p hp kp'
    rw [ob_new kp']
    simp only [cx_K, decide_true, decide_false, reduceCtorEq, gTp, gCons, gNil, ca_0, ca_1, ca_2, ca_3, ca_4, ca_5, ca_6, ca_7, ca_8, ca_9, ca_10, ca_11, ca_12, ca_13, ca_14, ca_15, ca_16, ca_17, ca_18, ca_19, ca_20, ca_21, ca_22, ca_23, ca_24, ca_25, ca_26, ca_27, ca_28, ca_29, ca_30, not_true_eq_false, not_false_eq_true, Int.reduceEq, Nat.reduceEqDiff, Nat.reduceLeDiff, rGcd, V.ty.injEq, eq_self, List.not_mem_nil, beq_self_eq_true, HO.lst.injEq, HO.tup.injEq, tFor_eq, iRng1, iList, iTup, nat10, tSeq, rIxA, rSetA, rIsN, rIsT, tTp, tLs, itsO_tup, itsO_lst, tyO_tup, tyO_lst, tyO_dK, tyN_non, tyN_bl, tyN_int, tyN_str, tyN_ref, tyNs_lt, isB, upd_same, upd_upd, sizeLine_eq, List.mem_cons, String.reduceBEq, String.reduceEq, Bool.or_false, Bool.or_true, Bool.and_false, Bool.false_or, Bool.and_self, Bool.false_and, Bool.not_false, Bool.not_true, List.any_cons, List.any_nil, atI_0, setI_0, atI_1, setI_1, atI_2, setI_2, atI_3, setI_3, atI_4, setI_4, atI_5, setI_5, atI_6, setI_6, tAsg, gName, tOp, tUn, tVar, tC, tCons, L2.tNil, tRet, tIfS, tTest, tCB, tCall, rI, rI0, rU, tNext, tB, tAnd, tOr, tNot, tAndV, tOrV, tNotV, tDrop, tIf, tPar, gSub, rIxL, rIxT, rEq, rNe, rSetL, tBits,
    L2.start, List.map_cons, List.map_nil, List.cons_append, List.nil_append, List.append_nil, List.length_cons, List.length_nil, List.replicate, Nat.reduceAdd, Nat.reduceSub, Nat.zero_add, List.getElem?_cons_zero, List.getElem?_cons_succ, List.set_cons_zero, List.set_cons_succ,
    Option.some.injEq, exists_eq_left', exists_eq_left, V.int.injEq, V.bl.injEq, V.ref.injEq, V.str.injEq, List.cons.injEq, reduceCtorEq, and_true, true_and, false_and, and_false, exists_false, or_false, false_or, or_true, true_or, exists_const, CMul, CDiv, CPow, and_assoc, exists_and_left, exists_and_right, Int.reducePow, Int.reduceNeg, Int.reduceLT, Int.reduceLE, Nat.reducePow, Nat.reduceLT, Int.reduceToNat, gt_iff_lt, ge_iff_le, decide_eq_true_eq, Bool.not_eq_true', decide_eq_false_iff_not, scal, ↓reduceIte, Bool.false_eq_true]
    refine menu h0 (by simpa using h) fun v hv => ?_
    rw [if_neg (show ¬ r < 1 by omega)] at hv ⊢
    simp only [List.mem_cons, List.not_mem_nil, or_false] at hv
    rcases hv with rfl | rfl | rfl | rfl | rfl <;> exact k _ _ (by omega) (by omega) (kp.trans (Kp.same (Same.new hp _))) (st.same (Same.new hp _))
  · refine ⟨s, _, rfl, st, by omega, fun j H2 h0' h1' kp2 st2 => ?_⟩
    simp only [cx_K, decide_true, decide_false, reduceCtorEq, gTp, gCons, gNil, ca_0, ca_1, ca_2, ca_3, ca_4, ca_5, ca_6, ca_7, ca_8, ca_9, ca_10, ca_11, ca_12, ca_13, ca_14, ca_15, ca_16, ca_17, ca_18, ca_19, ca_20, ca_21, ca_22, ca_23, ca_24, ca_25, ca_26, ca_27, ca_28, ca_29, ca_30, not_true_eq_false, not_false_eq_true, Int.reduceEq, Nat.reduceEqDiff, Nat.reduceLeDiff, rGcd, V.ty.injEq, eq_self, List.not_mem_nil, beq_self_eq_true, HO.lst.injEq, HO.tup.injEq, tFor_eq, iRng1, iList, iTup, nat10, tSeq, rIxA, rSetA, rIsN, rIsT, tTp, tLs, itsO_tup, itsO_lst, tyO_tup, tyO_lst, tyO_dK, tyN_non, tyN_bl, tyN_int, tyN_str, tyN_ref, tyNs_lt, isB, upd_same, upd_upd, sizeLine_eq, List.mem_cons, String.reduceBEq, String.reduceEq, Bool.or_false, Bool.or_true, Bool.and_false, Bool.false_or, Bool.and_self, Bool.false_and, Bool.not_false, Bool.not_true, List.any_cons, List.any_nil, atI_0, setI_0, atI_1, setI_1, atI_2, setI_2, atI_3, setI_3, atI_4, setI_4, atI_5, setI_5, atI_6, setI_6, tAsg, gName, tOp, tUn, tVar, tC, tCons, L2.tNil, tRet, tIfS, tTest, tCB, tCall, rI, rI0, rU, tNext, tB, tAnd, tOr, tNot, tAndV, tOrV, tNotV, tDrop, tIf, tPar, gSub, rIxL, rIxT, rEq, rNe, rSetL, tBits,
    L2.start, List.map_cons, List.map_nil, List.cons_append, List.nil_append, List.append_nil, List.length_cons, List.length_nil, List.replicate, Nat.reduceAdd, Nat.reduceSub, Nat.zero_add, List.getElem?_cons_zero, List.getElem?_cons_succ, List.set_cons_zero, List.set_cons_succ,
    Option.some.injEq, exists_eq_left', exists_eq_left, V.int.injEq, V.bl.injEq, V.ref.injEq, V.str.injEq, List.cons.injEq, reduceCtorEq, and_true, true_and, false_and, and_false, exists_false, or_false, false_or, or_true, true_or, exists_const, CMul, CDiv, CPow, and_assoc, exists_and_left, exists_and_right, Int.reducePow, Int.reduceNeg, Int.reduceLT, Int.reduceLE, Nat.reducePow, Nat.reduceLT, Int.reduceToNat, gt_iff_lt, ge_iff_le, decide_eq_true_eq, Bool.not_eq_true', decide_eq_false_iff_not, scal, ↓reduceIte, Bool.false_eq_true]
    exact k _ _ (by omega) (by omega) (kp.trans kp2) st2
def GreatI (s : Addr) (spot : Int) (H1 : Hp) (_ : Nat) (σ : L2.St) (H' : Hp) : Prop := ∃ v y, σ = [some (.ref s), some (.int spot), some (.int v), y] ∧ H' = H1 ∧ 0 ≤ v ∧ v < 2 ^ 133
abbrev sGreat : Stmt := topS 41
theorem scGreat : FnScope ["_law_store_here", "_law_spot", "_law_value_here", "_law_k"] ["_law_store_here"] (defScope sGreat) := ⟨rfl, rfl, rfl, by decide +kernel, rfl, by decide +kernel, by decide +kernel⟩
theorem k_Great (T : Bt K mg) (D : Dfn K mg "_law_great" sGreat ["_law_store_here"]) (d__law_take : Kn P w K mg base 2 "_law_take" ["_law_store_here", "_law_many"] (spTake K)) : Kn P w K mg base 3 "_law_great" ["_law_store_here"] (spInt K fun n => n.natAbs < 2 ^ 133) := by
  refine Kn.mk' D scGreat (fun vs H Q E h => ?_) (fun f cdv A outer s H vs Q E hr h => ?_)
  · obtain ⟨s, rfl, _⟩ := h
    rfl
  obtain ⟨s, rfl, hS, k⟩ := h
  refine ⟨_, (pss_cons (ps_set (i := 1) scGreat.nd rfl (.inl rfl) (pe_kn d__law_take hr (by rfl) (pa_cons (pv 0) (pa_cons pe_int pa_nil))))
      (pss_cons (ps_if (pt_cmpR op_lt (pv 1) pe_int (nomark _)) (pss_one (ps_ret (pe_ix ix_any (pe_ls (pa_cons (pe_op op_sub (pe_op op_pow pe_int pe_int) pe_int) (pa_cons (pe_op op_sub pe_int (pe_op op_pow pe_int pe_int)) (pa_cons (pe_op op_pow pe_int pe_int) (pa_cons pe_int pa_nil))))) (pv 1) (fun _ _ => rfl)))) pss_nil)
      (pss_cons (ps_set (i := 2) scGreat.nd rfl (.inl rfl) (pe_kn d__law_take hr (by rfl) (pa_cons (pv 0) (pa_cons (pe_op op_pow pe_int pe_int) pa_nil))))
      (pss_cons (ps_for PassesOwn.never rfl (pi_range1 (by rfl) T.b_range (pa_cons (pe_kn d__law_take hr (by rfl) (pa_cons (pv 0) (pa_cons pe_int pa_nil))) pa_nil)) (pg_name (i := 3) scGreat.nd rfl (.inl rfl)) (pss_one (ps_set (i := 2) scGreat.nd rfl (.inl rfl) (pe_op op_fdiv (pv 2) pe_int))))
      (pss_cons (ps_if (pt_cmpR op_eq (pe_op op_mod (pv 1) pe_int) pe_int (nomark _)) (pss_one (ps_ret (pe_un un_neg (pv 2)))) pss_nil)
      (pss_one (ps_ret (pv 2)))))))), ?_⟩
  simp only [cx_K, decide_true, decide_false, reduceCtorEq, gTp, gCons, gNil, ca_0, ca_1, ca_2, ca_3, ca_4, ca_5, ca_6, ca_7, ca_8, ca_9, ca_10, ca_11, ca_12, ca_13, ca_14, ca_15, ca_16, ca_17, ca_18, ca_19, ca_20, ca_21, ca_22, ca_23, ca_24, ca_25, ca_26, ca_27, ca_28, ca_29, ca_30, not_true_eq_false, not_false_eq_true, Int.reduceEq, Nat.reduceEqDiff, Nat.reduceLeDiff, rGcd, V.ty.injEq, eq_self, List.not_mem_nil, beq_self_eq_true, HO.lst.injEq, HO.tup.injEq, tFor_eq, iRng1, iList, iTup, nat10, tSeq, rIxA, rSetA, rIsN, rIsT, tTp, tLs, itsO_tup, itsO_lst, tyO_tup, tyO_lst, tyO_dK, tyN_non, tyN_bl, tyN_int, tyN_str, tyN_ref, tyNs_lt, isB, upd_same, upd_upd, sizeLine_eq, List.mem_cons, String.reduceBEq, String.reduceEq, Bool.or_false, Bool.or_true, Bool.and_false, Bool.false_or, Bool.and_self, Bool.false_and, Bool.not_false, Bool.not_true, List.any_cons, List.any_nil, atI_0, setI_0, atI_1, setI_1, atI_2, setI_2, atI_3, setI_3, atI_4, setI_4, atI_5, setI_5, atI_6, setI_6, tAsg, gName, tOp, tUn, tVar, tC, tCons, L2.tNil, tRet, tIfS, tTest, tCB, tCall, rI, rI0, rU, tNext, tB, tAnd, tOr, tNot, tAndV, tOrV, tNotV, tDrop, tIf, tPar, gSub, rIxL, rIxT, rEq, rNe, rSetL, tBits,
    L2.start, List.map_cons, List.map_nil, List.cons_append, List.nil_append, List.append_nil, List.length_cons, List.length_nil, List.replicate, Nat.reduceAdd, Nat.reduceSub, Nat.zero_add, List.getElem?_cons_zero, List.getElem?_cons_succ, List.set_cons_zero, List.set_cons_succ,
    Option.some.injEq, exists_eq_left', exists_eq_left, V.int.injEq, V.bl.injEq, V.ref.injEq, V.str.injEq, List.cons.injEq, reduceCtorEq, and_true, true_and, false_and, and_false, exists_false, or_false, false_or, or_true, true_or, exists_const, CMul, CDiv, CPow, and_assoc, exists_and_left, exists_and_right, Int.reducePow, Int.reduceNeg, Int.reduceLT, Int.reduceLE, Nat.reducePow, Nat.reduceLT, Int.reduceToNat, gt_iff_lt, ge_iff_le, decide_eq_true_eq, Bool.not_eq_true', decide_eq_false_iff_not, scal, ↓reduceIte, Bool.false_eq_true]
  refine ⟨s, 12, rfl, hS, by omega, fun i H1 h0 h1 kp st => ?_⟩
  simp only [cx_K, decide_true, decide_false, reduceCtorEq, gTp, gCons, gNil, ca_0, ca_1, ca_2, ca_3, ca_4, ca_5, ca_6, ca_7, ca_8, ca_9, ca_10, ca_11, ca_12, ca_13, ca_14, ca_15, ca_16, ca_17, ca_18, ca_19, ca_20, ca_21, ca_22, ca_23, ca_24, ca_25, ca_26, ca_27, ca_28, ca_29, ca_30, not_true_eq_false, not_false_eq_true, Int.reduceEq, Nat.reduceEqDiff, Nat.reduceLeDiff, rGcd, V.ty.injEq, eq_self, List.not_mem_nil, beq_self_eq_true, HO.lst.injEq, HO.tup.injEq, tFor_eq, iRng1, iList, iTup, nat10, tSeq, rIxA, rSetA, rIsN, rIsT, tTp, tLs, itsO_tup, itsO_lst, tyO_tup, tyO_lst, tyO_dK, tyN_non, tyN_bl, tyN_int, tyN_str, tyN_ref, tyNs_lt, isB, upd_same, upd_upd, sizeLine_eq, List.mem_cons, String.reduceBEq, String.reduceEq, Bool.or_false, Bool.or_true, Bool.and_false, Bool.false_or, Bool.and_self, Bool.false_and, Bool.not_false, Bool.not_true, List.any_cons, List.any_nil, atI_0, setI_0, atI_1, setI_1, atI_2, setI_2, atI_3, setI_3, atI_4, setI_4, atI_5, setI_5, atI_6, setI_6, tAsg, gName, tOp, tUn, tVar, tC, tCons, L2.tNil, tRet, tIfS, tTest, tCB, tCall, rI, rI0, rU, tNext, tB, tAnd, tOr, tNot, tAndV, tOrV, tNotV, tDrop, tIf, tPar, gSub, rIxL, rIxT, rEq, rNe, rSetL, tBits,
    L2.start, List.map_cons, List.map_nil, List.cons_append, List.nil_append, List.append_nil, List.length_cons, List.length_nil, List.replicate, Nat.reduceAdd, Nat.reduceSub, Nat.zero_add, List.getElem?_cons_zero, List.getElem?_cons_succ, List.set_cons_zero, List.set_cons_succ,
    Option.some.injEq, exists_eq_left', exists_eq_left, V.int.injEq, V.bl.injEq, V.ref.injEq, V.str.injEq, List.cons.injEq, reduceCtorEq, and_true, true_and, false_and, and_false, exists_false, or_false, false_or, or_true, true_or, exists_const, CMul, CDiv, CPow, and_assoc, exists_and_left, exists_and_right, Int.reducePow, Int.reduceNeg, Int.reduceLT, Int.reduceLE, Nat.reducePow, Nat.reduceLT, Int.reduceToNat, gt_iff_lt, ge_iff_le, decide_eq_true_eq, Bool.not_eq_true', decide_eq_false_iff_not, scal, ↓reduceIte, Bool.false_eq_true]
  refine ite2 (fun h => ?_) (fun h => ?_)
  · intro p hp kp'
    rw [ob_new kp']
    simp only [cx_K, decide_true, decide_false, reduceCtorEq, gTp, gCons, gNil, ca_0, ca_1, ca_2, ca_3, ca_4, ca_5, ca_6, ca_7, ca_8, ca_9, ca_10, ca_11, ca_12, ca_13, ca_14, ca_15, ca_16, ca_17, ca_18, ca_19, ca_20, ca_21, ca_22, ca_23, ca_24, ca_25, ca_26, ca_27, ca_28, ca_29, ca_30, not_true_eq_false, not_false_eq_true, Int.reduceEq, Nat.reduceEqDiff, Nat.reduceLeDiff, rGcd, V.ty.injEq, eq_self, List.not_mem_nil, beq_self_eq_true, HO.lst.injEq, HO.tup.injEq, tFor_eq, iRng1, iList, iTup, nat10, tSeq, rIxA, rSetA, rIsN, rIsT, tTp, tLs, itsO_tup, itsO_lst, tyO_tup, tyO_lst, tyO_dK, tyN_non, tyN_bl, tyN_int, tyN_str, tyN_ref, tyNs_lt, isB, upd_same, upd_upd, sizeLine_eq, List.mem_cons, String.reduceBEq, String.reduceEq, Bool.or_false, Bool.or_true, Bool.and_false, Bool.false_or, Bool.and_self, Bool.false_and, Bool.not_false, Bool.not_true, List.any_cons, List.any_nil, atI_0, setI_0, atI_1, setI_1, atI_2, setI_2, atI_3, setI_3, atI_4, setI_4, atI_5, setI_5, atI_6, setI_6, tAsg, gName, tOp, tUn, tVar, tC, tCons, L2.tNil, tRet, tIfS, tTest, tCB, tCall, rI, rI0, rU, tNext, tB, tAnd, tOr, tNot, tAndV, tOrV, tNotV, tDrop, tIf, tPar, gSub, rIxL, rIxT, rEq, rNe, rSetL, tBits,
    L2.start, List.map_cons, List.map_nil, List.cons_append, List.nil_append, List.append_nil, List.length_cons, List.length_nil, List.replicate, Nat.reduceAdd, Nat.reduceSub, Nat.zero_add, List.getElem?_cons_zero, List.getElem?_cons_succ, List.set_cons_zero, List.set_cons_succ,
    Option.some.injEq, exists_eq_left', exists_eq_left, V.int.injEq, V.bl.injEq, V.ref.injEq, V.str.injEq, List.cons.injEq, reduceCtorEq, and_true, true_and, false_and, and_false, exists_false, or_false, false_or, or_true, true_or, exists_const, CMul, CDiv, CPow, and_assoc, exists_and_left, exists_and_right, Int.reducePow, Int.reduceNeg, Int.reduceLT, Int.reduceLE, Nat.reducePow, Nat.reduceLT, Int.reduceToNat, gt_iff_lt, ge_iff_le, decide_eq_true_eq, Bool.not_eq_true', decide_eq_false_iff_not, scal, ↓reduceIte, Bool.false_eq_true]
    refine menu h0 (by simpa using h) fun v hv => ?_
    simp only [List.mem_cons, List.not_mem_nil, or_false] at hv
    rcases hv with rfl | rfl | rfl | rfl <;> exact k _ _ (by show Int.natAbs _ < _; omega) (kp.trans (Kp.same (Same.new hp _))) (st.same (Same.new hp _))
  · refine ⟨s, _, rfl, st, by omega, fun j H2 j0 j1 kp2 st2 => ⟨s, 40, rfl, st2, by omega, fun m H3 m0 m1 kp3 st3 => ?_⟩⟩
    simp only [cx_K, decide_true, decide_false, reduceCtorEq, gTp, gCons, gNil, ca_0, ca_1, ca_2, ca_3, ca_4, ca_5, ca_6, ca_7, ca_8, ca_9, ca_10, ca_11, ca_12, ca_13, ca_14, ca_15, ca_16, ca_17, ca_18, ca_19, ca_20, ca_21, ca_22, ca_23, ca_24, ca_25, ca_26, ca_27, ca_28, ca_29, ca_30, not_true_eq_false, not_false_eq_true, Int.reduceEq, Nat.reduceEqDiff, Nat.reduceLeDiff, rGcd, V.ty.injEq, eq_self, List.not_mem_nil, beq_self_eq_true, HO.lst.injEq, HO.tup.injEq, tFor_eq, iRng1, iList, iTup, nat10, tSeq, rIxA, rSetA, rIsN, rIsT, tTp, tLs, itsO_tup, itsO_lst, tyO_tup, tyO_lst, tyO_dK, tyN_non, tyN_bl, tyN_int, tyN_str, tyN_ref, tyNs_lt, isB, upd_same, upd_upd, sizeLine_eq, List.mem_cons, String.reduceBEq, String.reduceEq, Bool.or_false, Bool.or_true, Bool.and_false, Bool.false_or, Bool.and_self, Bool.false_and, Bool.not_false, Bool.not_true, List.any_cons, List.any_nil, atI_0, setI_0, atI_1, setI_1, atI_2, setI_2, atI_3, setI_3, atI_4, setI_4, atI_5, setI_5, atI_6, setI_6, tAsg, gName, tOp, tUn, tVar, tC, tCons, L2.tNil, tRet, tIfS, tTest, tCB, tCall, rI, rI0, rU, tNext, tB, tAnd, tOr, tNot, tAndV, tOrV, tNotV, tDrop, tIf, tPar, gSub, rIxL, rIxT, rEq, rNe, rSetL, tBits,
    L2.start, List.map_cons, List.map_nil, List.cons_append, List.nil_append, List.append_nil, List.length_cons, List.length_nil, List.replicate, Nat.reduceAdd, Nat.reduceSub, Nat.zero_add, List.getElem?_cons_zero, List.getElem?_cons_succ, List.set_cons_zero, List.set_cons_succ,
    Option.some.injEq, exists_eq_left', exists_eq_left, V.int.injEq, V.bl.injEq, V.ref.injEq, V.str.injEq, List.cons.injEq, reduceCtorEq, and_true, true_and, false_and, and_false, exists_false, or_false, false_or, or_true, true_or, exists_const, CMul, CDiv, CPow, and_assoc, exists_and_left, exists_and_right, Int.reducePow, Int.reduceNeg, Int.reduceLT, Int.reduceLE, Nat.reducePow, Nat.reduceLT, Int.reduceToNat, gt_iff_lt, ge_iff_le, decide_eq_true_eq, Bool.not_eq_true', decide_eq_false_iff_not, scal, ↓reduceIte, Bool.false_eq_true]
    refine ⟨by omega, by omega, forI_range (GreatI s i H3) ⟨j, none, rfl, rfl, j0, by omega⟩ ?_ ?_⟩
    · rintro t σ H' _ ⟨v, y, rfl, rfl, v0, v1⟩
      simp only [cx_K, decide_true, decide_false, reduceCtorEq, gTp, gCons, gNil, ca_0, ca_1, ca_2, ca_3, ca_4, ca_5, ca_6, ca_7, ca_8, ca_9, ca_10, ca_11, ca_12, ca_13, ca_14, ca_15, ca_16, ca_17, ca_18, ca_19, ca_20, ca_21, ca_22, ca_23, ca_24, ca_25, ca_26, ca_27, ca_28, ca_29, ca_30, not_true_eq_false, not_false_eq_true, Int.reduceEq, Nat.reduceEqDiff, Nat.reduceLeDiff, rGcd, V.ty.injEq, eq_self, List.not_mem_nil, beq_self_eq_true, HO.lst.injEq, HO.tup.injEq, tFor_eq, iRng1, iList, iTup, nat10, tSeq, rIxA, rSetA, rIsN, rIsT, tTp, tLs, itsO_tup, itsO_lst, tyO_tup, tyO_lst, tyO_dK, tyN_non, tyN_bl, tyN_int, tyN_str, tyN_ref, tyNs_lt, isB, upd_same, upd_upd, sizeLine_eq, List.mem_cons, String.reduceBEq, String.reduceEq, Bool.or_false, Bool.or_true, Bool.and_false, Bool.false_or, Bool.and_self, Bool.false_and, Bool.not_false, Bool.not_true, List.any_cons, List.any_nil, atI_0, setI_0, atI_1, setI_1, atI_2, setI_2, atI_3, setI_3, atI_4, setI_4, atI_5, setI_5, atI_6, setI_6, tAsg, gName, tOp, tUn, tVar, tC, tCons, L2.tNil, tRet, tIfS, tTest, tCB, tCall, rI, rI0, rU, tNext, tB, tAnd, tOr, tNot, tAndV, tOrV, tNotV, tDrop, tIf, tPar, gSub, rIxL, rIxT, rEq, rNe, rSetL, tBits,
    L2.start, List.map_cons, List.map_nil, List.cons_append, List.nil_append, List.append_nil, List.length_cons, List.length_nil, List.replicate, Nat.reduceAdd, Nat.reduceSub, Nat.zero_add, List.getElem?_cons_zero, List.getElem?_cons_succ, List.set_cons_zero, List.set_cons_succ,
    Option.some.injEq, exists_eq_left', exists_eq_left, V.int.injEq, V.bl.injEq, V.ref.injEq, V.str.injEq, List.cons.injEq, reduceCtorEq, and_true, true_and, false_and, and_false, exists_false, or_false, false_or, or_true, true_or, exists_const, CMul, CDiv, CPow, and_assoc, exists_and_left, exists_and_right, Int.reducePow, Int.reduceNeg, Int.reduceLT, Int.reduceLE, Nat.reducePow, Nat.reduceLT, Int.reduceToNat, gt_iff_lt, ge_iff_le, decide_eq_true_eq, Bool.not_eq_true', decide_eq_false_iff_not, scal, ↓reduceIte, Bool.false_eq_true]
      exact ⟨_, _, rfl, rfl, by omega, by omega⟩
    · rintro σ H' ⟨v, y, rfl, rfl, v0, v1⟩
      simp only [cx_K, decide_true, decide_false, reduceCtorEq, gTp, gCons, gNil, ca_0, ca_1, ca_2, ca_3, ca_4, ca_5, ca_6, ca_7, ca_8, ca_9, ca_10, ca_11, ca_12, ca_13, ca_14, ca_15, ca_16, ca_17, ca_18, ca_19, ca_20, ca_21, ca_22, ca_23, ca_24, ca_25, ca_26, ca_27, ca_28, ca_29, ca_30, not_true_eq_false, not_false_eq_true, Int.reduceEq, Nat.reduceEqDiff, Nat.reduceLeDiff, rGcd, V.ty.injEq, eq_self, List.not_mem_nil, beq_self_eq_true, HO.lst.injEq, HO.tup.injEq, tFor_eq, iRng1, iList, iTup, nat10, tSeq, rIxA, rSetA, rIsN, rIsT, tTp, tLs, itsO_tup, itsO_lst, tyO_tup, tyO_lst, tyO_dK, tyN_non, tyN_bl, tyN_int, tyN_str, tyN_ref, tyNs_lt, isB, upd_same, upd_upd, sizeLine_eq, List.mem_cons, String.reduceBEq, String.reduceEq, Bool.or_false, Bool.or_true, Bool.and_false, Bool.false_or, Bool.and_self, Bool.false_and, Bool.not_false, Bool.not_true, List.any_cons, List.any_nil, atI_0, setI_0, atI_1, setI_1, atI_2, setI_2, atI_3, setI_3, atI_4, setI_4, atI_5, setI_5, atI_6, setI_6, tAsg, gName, tOp, tUn, tVar, tC, tCons, L2.tNil, tRet, tIfS, tTest, tCB, tCall, rI, rI0, rU, tNext, tB, tAnd, tOr, tNot, tAndV, tOrV, tNotV, tDrop, tIf, tPar, gSub, rIxL, rIxT, rEq, rNe, rSetL, tBits,
    L2.start, List.map_cons, List.map_nil, List.cons_append, List.nil_append, List.append_nil, List.length_cons, List.length_nil, List.replicate, Nat.reduceAdd, Nat.reduceSub, Nat.zero_add, List.getElem?_cons_zero, List.getElem?_cons_succ, List.set_cons_zero, List.set_cons_succ,
    Option.some.injEq, exists_eq_left', exists_eq_left, V.int.injEq, V.bl.injEq, V.ref.injEq, V.str.injEq, List.cons.injEq, reduceCtorEq, and_true, true_and, false_and, and_false, exists_false, or_false, false_or, or_true, true_or, exists_const, CMul, CDiv, CPow, and_assoc, exists_and_left, exists_and_right, Int.reducePow, Int.reduceNeg, Int.reduceLT, Int.reduceLE, Nat.reducePow, Nat.reduceLT, Int.reduceToNat, gt_iff_lt, ge_iff_le, decide_eq_true_eq, Bool.not_eq_true', decide_eq_false_iff_not, scal, ↓reduceIte, Bool.false_eq_true]
      have kk := (kp.trans kp2).trans kp3
      exact ite2 (fun _ => k _ _ (by show Int.natAbs _ < _; omega) kk st3) (fun _ => k _ _ (by show Int.natAbs _ < _; omega) kk st3)
def spDFrac (K : PySem.W.Frag) (n : Nat) : Sp := fun vs H Q _ => ∃ (s : Addr), vs = [.ref s] ∧ Sto K H s ∧ ∀ a q H', Fq K H' n a q → Kp s H H' → Sto K H' s → Q (.ref a) H'
theorem nf01 : Nf (0, 1) := ⟨by decide, by decide⟩
theorem nf11 : Nf (1, 1) := ⟨by decide, by decide⟩
theorem nfm1 : Nf (-1, 1) := ⟨by decide, by decide⟩
theorem nf12 : Nf (1, 2) := ⟨by decide, by decide⟩
theorem nfm2 : Nf (-1, 2) := ⟨by decide, by decide⟩
theorem sz10 {x y : Int} (h1 : x.natAbs < 1024) (h2 : y.natAbs < 1024) : Sz 10 (x, y) := ⟨by show x.natAbs < _; omega, by show y.natAbs < _; omega⟩
abbrev sDFrac : Stmt := topS 42
theorem scDFrac : FnScope ["_law_store_here", "_law_spot", "_law_bottom"] ["_law_store_here"] (defScope sDFrac) := ⟨rfl, rfl, rfl, by decide +kernel, rfl, by decide +kernel, by decide +kernel⟩
theorem k_DFrac (T : Bt K mg) (D : Dfn K mg "_law_frac" sDFrac ["_law_store_here"]) (d__law_take : Kn P w K mg base 2 "_law_take" ["_law_store_here", "_law_many"] (spTake K)) (d__law_lowest : Kn P w K mg base 2 "_law_lowest" ["_law_top", "_law_bottom"] (spLowest K)) : Kn P w K mg base 3 "_law_frac" ["_law_store_here"] (spDFrac K 10) := by
  refine Kn.mk' D scDFrac (fun vs H Q E h => ?_) (fun f cdv A outer s H vs Q E hr h => ?_)
  · obtain ⟨s, rfl, _⟩ := h
    rfl
  obtain ⟨s, rfl, hS, k⟩ := h
  refine ⟨_, (pss_cons (ps_set (i := 1) scDFrac.nd rfl (.inl rfl) (pe_kn d__law_take hr (by rfl) (pa_cons (pv 0) (pa_cons pe_int pa_nil))))
      (pss_cons (ps_if (pt_cmpR op_lt (pv 1) pe_int (nomark _)) (pss_one (ps_ret (pe_ix ix_any (pe_ls (pa_cons (pe_tp (pa_cons pe_int (pa_cons pe_int pa_nil))) (pa_cons (pe_tp (pa_cons pe_int (pa_cons pe_int pa_nil))) (pa_cons (pe_tp (pa_cons (pe_un un_neg pe_int) (pa_cons pe_int pa_nil))) (pa_cons (pe_tp (pa_cons pe_int (pa_cons pe_int pa_nil))) (pa_cons (pe_tp (pa_cons (pe_un un_neg pe_int) (pa_cons pe_int pa_nil))) pa_nil)))))) (pv 1) (fun _ _ => rfl)))) pss_nil)
      (pss_cons (ps_set (i := 2) scDFrac.nd rfl (.inl rfl) (pe_op op_add pe_int (pe_kn d__law_take hr (by rfl) (pa_cons (pv 0) (pa_cons pe_int pa_nil)))))
      (pss_one (ps_ret (pe_kn d__law_lowest hr (by rfl) (pa_cons (pe_op op_sub (pe_kn d__law_take hr (by rfl) (pa_cons (pv 0) (pa_cons (pe_op op_add (pe_op op_mul pe_int (pv 2)) pe_int) pa_nil))) (pe_op op_mul pe_int (pv 2))) (pa_cons (pv 2) pa_nil)))))))), ?_⟩
  simp only [cx_K, decide_true, decide_false, reduceCtorEq, gTp, gCons, gNil, ca_0, ca_1, ca_2, ca_3, ca_4, ca_5, ca_6, ca_7, ca_8, ca_9, ca_10, ca_11, ca_12, ca_13, ca_14, ca_15, ca_16, ca_17, ca_18, ca_19, ca_20, ca_21, ca_22, ca_23, ca_24, ca_25, ca_26, ca_27, ca_28, ca_29, ca_30, not_true_eq_false, not_false_eq_true, Int.reduceEq, Nat.reduceEqDiff, Nat.reduceLeDiff, rGcd, V.ty.injEq, eq_self, List.not_mem_nil, beq_self_eq_true, HO.lst.injEq, HO.tup.injEq, tFor_eq, iRng1, iList, iTup, nat10, tSeq, rIxA, rSetA, rIsN, rIsT, tTp, tLs, itsO_tup, itsO_lst, tyO_tup, tyO_lst, tyO_dK, tyN_non, tyN_bl, tyN_int, tyN_str, tyN_ref, tyNs_lt, isB, upd_same, upd_upd, sizeLine_eq, List.mem_cons, String.reduceBEq, String.reduceEq, Bool.or_false, Bool.or_true, Bool.and_false, Bool.false_or, Bool.and_self, Bool.false_and, Bool.not_false, Bool.not_true, List.any_cons, List.any_nil, atI_0, setI_0, atI_1, setI_1, atI_2, setI_2, atI_3, setI_3, atI_4, setI_4, atI_5, setI_5, atI_6, setI_6, tAsg, gName, tOp, tUn, tVar, tC, tCons, L2.tNil, tRet, tIfS, tTest, tCB, tCall, rI, rI0, rU, tNext, tB, tAnd, tOr, tNot, tAndV, tOrV, tNotV, tDrop, tIf, tPar, gSub, rIxL, rIxT, rEq, rNe, rSetL, tBits,
    L2.start, List.map_cons, List.map_nil, List.cons_append, List.nil_append, List.append_nil, List.length_cons, List.length_nil, List.replicate, Nat.reduceAdd, Nat.reduceSub, Nat.zero_add, List.getElem?_cons_zero, List.getElem?_cons_succ, List.set_cons_zero, List.set_cons_succ,
    Option.some.injEq, exists_eq_left', exists_eq_left, V.int.injEq, V.bl.injEq, V.ref.injEq, V.str.injEq, List.cons.injEq, reduceCtorEq, and_true, true_and, false_and, and_false, exists_false, or_false, false_or, or_true, true_or, exists_const, CMul, CDiv, CPow, and_assoc, exists_and_left, exists_and_right, Int.reducePow, Int.reduceNeg, Int.reduceLT, Int.reduceLE, Nat.reducePow, Nat.reduceLT, Int.reduceToNat, gt_iff_lt, ge_iff_le, decide_eq_true_eq, Bool.not_eq_true', decide_eq_false_iff_not, scal, ↓reduceIte, Bool.false_eq_true]
  refine ⟨s, 12, rfl, hS, by omega, fun i H1 z0 z1 kp st => ?_⟩
  simp only [cx_K, decide_true, decide_false, reduceCtorEq, gTp, gCons, gNil, ca_0, ca_1, ca_2, ca_3, ca_4, ca_5, ca_6, ca_7, ca_8, ca_9, ca_10, ca_11, ca_12, ca_13, ca_14, ca_15, ca_16, ca_17, ca_18, ca_19, ca_20, ca_21, ca_22, ca_23, ca_24, ca_25, ca_26, ca_27, ca_28, ca_29, ca_30, not_true_eq_false, not_false_eq_true, Int.reduceEq, Nat.reduceEqDiff, Nat.reduceLeDiff, rGcd, V.ty.injEq, eq_self, List.not_mem_nil, beq_self_eq_true, HO.lst.injEq, HO.tup.injEq, tFor_eq, iRng1, iList, iTup, nat10, tSeq, rIxA, rSetA, rIsN, rIsT, tTp, tLs, itsO_tup, itsO_lst, tyO_tup, tyO_lst, tyO_dK, tyN_non, tyN_bl, tyN_int, tyN_str, tyN_ref, tyNs_lt, isB, upd_same, upd_upd, sizeLine_eq, List.mem_cons, String.reduceBEq, String.reduceEq, Bool.or_false, Bool.or_true, Bool.and_false, Bool.false_or, Bool.and_self, Bool.false_and, Bool.not_false, Bool.not_true, List.any_cons, List.any_nil, atI_0, setI_0, atI_1, setI_1, atI_2, setI_2, atI_3, setI_3, atI_4, setI_4, atI_5, setI_5, atI_6, setI_6, tAsg, gName, tOp, tUn, tVar, tC, tCons, L2.tNil, tRet, tIfS, tTest, tCB, tCall, rI, rI0, rU, tNext, tB, tAnd, tOr, tNot, tAndV, tOrV, tNotV, tDrop, tIf, tPar, gSub, rIxL, rIxT, rEq, rNe, rSetL, tBits,
    L2.start, List.map_cons, List.map_nil, List.cons_append, List.nil_append, List.append_nil, List.length_cons, List.length_nil, List.replicate, Nat.reduceAdd, Nat.reduceSub, Nat.zero_add, List.getElem?_cons_zero, List.getElem?_cons_succ, List.set_cons_zero, List.set_cons_succ,
    Option.some.injEq, exists_eq_left', exists_eq_left, V.int.injEq, V.bl.injEq, V.ref.injEq, V.str.injEq, List.cons.injEq, reduceCtorEq, and_true, true_and, false_and, and_false, exists_false, or_false, false_or, or_true, true_or, exists_const, CMul, CDiv, CPow, and_assoc, exists_and_left, exists_and_right, Int.reducePow, Int.reduceNeg, Int.reduceLT, Int.reduceLE, Nat.reducePow, Nat.reduceLT, Int.reduceToNat, gt_iff_lt, ge_iff_le, decide_eq_true_eq, Bool.not_eq_true', decide_eq_false_iff_not, scal, ↓reduceIte, Bool.false_eq_true]
  refine ite2 (fun h => ?_) (fun h => ?_)
  · intro p1 h1 k1 p2 h2 k2 p3 h3 k3 p4 h4 k4 p5 h5 k5 p6 h6 k6
    rw [ob_new k6]
    simp only [cx_K, decide_true, decide_false, reduceCtorEq, gTp, gCons, gNil, ca_0, ca_1, ca_2, ca_3, ca_4, ca_5, ca_6, ca_7, ca_8, ca_9, ca_10, ca_11, ca_12, ca_13, ca_14, ca_15, ca_16, ca_17, ca_18, ca_19, ca_20, ca_21, ca_22, ca_23, ca_24, ca_25, ca_26, ca_27, ca_28, ca_29, ca_30, not_true_eq_false, not_false_eq_true, Int.reduceEq, Nat.reduceEqDiff, Nat.reduceLeDiff, rGcd, V.ty.injEq, eq_self, List.not_mem_nil, beq_self_eq_true, HO.lst.injEq, HO.tup.injEq, tFor_eq, iRng1, iList, iTup, nat10, tSeq, rIxA, rSetA, rIsN, rIsT, tTp, tLs, itsO_tup, itsO_lst, tyO_tup, tyO_lst, tyO_dK, tyN_non, tyN_bl, tyN_int, tyN_str, tyN_ref, tyNs_lt, isB, upd_same, upd_upd, sizeLine_eq, List.mem_cons, String.reduceBEq, String.reduceEq, Bool.or_false, Bool.or_true, Bool.and_false, Bool.false_or, Bool.and_self, Bool.false_and, Bool.not_false, Bool.not_true, List.any_cons, List.any_nil, atI_0, setI_0, atI_1, setI_1, atI_2, setI_2, atI_3, setI_3, atI_4, setI_4, atI_5, setI_5, atI_6, setI_6, tAsg, gName, tOp, tUn, tVar, tC, tCons, L2.tNil, tRet, tIfS, tTest, tCB, tCall, rI, rI0, rU, tNext, tB, tAnd, tOr, tNot, tAndV, tOrV, tNotV, tDrop, tIf, tPar, gSub, rIxL, rIxT, rEq, rNe, rSetL, tBits,
    L2.start, List.map_cons, List.map_nil, List.cons_append, List.nil_append, List.append_nil, List.length_cons, List.length_nil, List.replicate, Nat.reduceAdd, Nat.reduceSub, Nat.zero_add, List.getElem?_cons_zero, List.getElem?_cons_succ, List.set_cons_zero, List.set_cons_succ,
    Option.some.injEq, exists_eq_left', exists_eq_left, V.int.injEq, V.bl.injEq, V.ref.injEq, V.str.injEq, List.cons.injEq, reduceCtorEq, and_true, true_and, false_and, and_false, exists_false, or_false, false_or, or_true, true_or, exists_const, CMul, CDiv, CPow, and_assoc, exists_and_left, exists_and_right, Int.reducePow, Int.reduceNeg, Int.reduceLT, Int.reduceLE, Nat.reducePow, Nat.reduceLT, Int.reduceToNat, gt_iff_lt, ge_iff_le, decide_eq_true_eq, Bool.not_eq_true', decide_eq_false_iff_not, scal, ↓reduceIte, Bool.false_eq_true]
    refine menu z0 (by simpa using h) fun v hv => ?_
    simp only [List.mem_cons, List.not_mem_nil, or_false] at hv
    rcases hv with rfl | rfl | rfl | rfl | rfl
    · exact k _ _ _ ⟨ob_same ((Same.new h2 _).trans ((Same.new h3 _).trans ((Same.new h4 _).trans ((Same.new h5 _).trans (Same.new h6 _))))) (ob_new k1), nf01, sz10 (by decide) (by decide)⟩ (kp.trans (Kp.same ((Same.new h1 _).trans ((Same.new h2 _).trans ((Same.new h3 _).trans ((Same.new h4 _).trans ((Same.new h5 _).trans (Same.new h6 _)))))))) (st.same ((Same.new h1 _).trans ((Same.new h2 _).trans ((Same.new h3 _).trans ((Same.new h4 _).trans ((Same.new h5 _).trans (Same.new h6 _)))))))
    · exact k _ _ _ ⟨ob_same ((Same.new h3 _).trans ((Same.new h4 _).trans ((Same.new h5 _).trans (Same.new h6 _)))) (ob_new k2), nf11, sz10 (by decide) (by decide)⟩ (kp.trans (Kp.same ((Same.new h1 _).trans ((Same.new h2 _).trans ((Same.new h3 _).trans ((Same.new h4 _).trans ((Same.new h5 _).trans (Same.new h6 _)))))))) (st.same ((Same.new h1 _).trans ((Same.new h2 _).trans ((Same.new h3 _).trans ((Same.new h4 _).trans ((Same.new h5 _).trans (Same.new h6 _)))))))
    · exact k _ _ _ ⟨ob_same ((Same.new h4 _).trans ((Same.new h5 _).trans (Same.new h6 _))) (ob_new k3), nfm1, sz10 (by decide) (by decide)⟩ (kp.trans (Kp.same ((Same.new h1 _).trans ((Same.new h2 _).trans ((Same.new h3 _).trans ((Same.new h4 _).trans ((Same.new h5 _).trans (Same.new h6 _)))))))) (st.same ((Same.new h1 _).trans ((Same.new h2 _).trans ((Same.new h3 _).trans ((Same.new h4 _).trans ((Same.new h5 _).trans (Same.new h6 _)))))))
    · exact k _ _ _ ⟨ob_same ((Same.new h5 _).trans (Same.new h6 _)) (ob_new k4), nf12, sz10 (by decide) (by decide)⟩ (kp.trans (Kp.same ((Same.new h1 _).trans ((Same.new h2 _).trans ((Same.new h3 _).trans ((Same.new h4 _).trans ((Same.new h5 _).trans (Same.new h6 _)))))))) (st.same ((Same.new h1 _).trans ((Same.new h2 _).trans ((Same.new h3 _).trans ((Same.new h4 _).trans ((Same.new h5 _).trans (Same.new h6 _)))))))
    · exact k _ _ _ ⟨ob_same (Same.new h6 _) (ob_new k5), nfm2, sz10 (by decide) (by decide)⟩ (kp.trans (Kp.same ((Same.new h1 _).trans ((Same.new h2 _).trans ((Same.new h3 _).trans ((Same.new h4 _).trans ((Same.new h5 _).trans (Same.new h6 _)))))))) (st.same ((Same.new h1 _).trans ((Same.new h2 _).trans ((Same.new h3 _).trans ((Same.new h4 _).trans ((Same.new h5 _).trans (Same.new h6 _)))))))
  · refine ⟨s, 12, rfl, st, by omega, fun j H2 j0 j1 kp2 st2 => ?_⟩
    simp only [cx_K, decide_true, decide_false, reduceCtorEq, gTp, gCons, gNil, ca_0, ca_1, ca_2, ca_3, ca_4, ca_5, ca_6, ca_7, ca_8, ca_9, ca_10, ca_11, ca_12, ca_13, ca_14, ca_15, ca_16, ca_17, ca_18, ca_19, ca_20, ca_21, ca_22, ca_23, ca_24, ca_25, ca_26, ca_27, ca_28, ca_29, ca_30, not_true_eq_false, not_false_eq_true, Int.reduceEq, Nat.reduceEqDiff, Nat.reduceLeDiff, rGcd, V.ty.injEq, eq_self, List.not_mem_nil, beq_self_eq_true, HO.lst.injEq, HO.tup.injEq, tFor_eq, iRng1, iList, iTup, nat10, tSeq, rIxA, rSetA, rIsN, rIsT, tTp, tLs, itsO_tup, itsO_lst, tyO_tup, tyO_lst, tyO_dK, tyN_non, tyN_bl, tyN_int, tyN_str, tyN_ref, tyNs_lt, isB, upd_same, upd_upd, sizeLine_eq, List.mem_cons, String.reduceBEq, String.reduceEq, Bool.or_false, Bool.or_true, Bool.and_false, Bool.false_or, Bool.and_self, Bool.false_and, Bool.not_false, Bool.not_true, List.any_cons, List.any_nil, atI_0, setI_0, atI_1, setI_1, atI_2, setI_2, atI_3, setI_3, atI_4, setI_4, atI_5, setI_5, atI_6, setI_6, tAsg, gName, tOp, tUn, tVar, tC, tCons, L2.tNil, tRet, tIfS, tTest, tCB, tCall, rI, rI0, rU, tNext, tB, tAnd, tOr, tNot, tAndV, tOrV, tNotV, tDrop, tIf, tPar, gSub, rIxL, rIxT, rEq, rNe, rSetL, tBits,
    L2.start, List.map_cons, List.map_nil, List.cons_append, List.nil_append, List.append_nil, List.length_cons, List.length_nil, List.replicate, Nat.reduceAdd, Nat.reduceSub, Nat.zero_add, List.getElem?_cons_zero, List.getElem?_cons_succ, List.set_cons_zero, List.set_cons_succ,
    Option.some.injEq, exists_eq_left', exists_eq_left, V.int.injEq, V.bl.injEq, V.ref.injEq, V.str.injEq, List.cons.injEq, reduceCtorEq, and_true, true_and, false_and, and_false, exists_false, or_false, false_or, or_true, true_or, exists_const, CMul, CDiv, CPow, and_assoc, exists_and_left, exists_and_right, Int.reducePow, Int.reduceNeg, Int.reduceLT, Int.reduceLE, Nat.reducePow, Nat.reduceLT, Int.reduceToNat, gt_iff_lt, ge_iff_le, decide_eq_true_eq, Bool.not_eq_true', decide_eq_false_iff_not, scal, ↓reduceIte, Bool.false_eq_true]
    refine ⟨s, _, rfl, st2, by omega, fun m H3 m0 m1 kp3 st3 => ?_⟩
    simp only [cx_K, decide_true, decide_false, reduceCtorEq, gTp, gCons, gNil, ca_0, ca_1, ca_2, ca_3, ca_4, ca_5, ca_6, ca_7, ca_8, ca_9, ca_10, ca_11, ca_12, ca_13, ca_14, ca_15, ca_16, ca_17, ca_18, ca_19, ca_20, ca_21, ca_22, ca_23, ca_24, ca_25, ca_26, ca_27, ca_28, ca_29, ca_30, not_true_eq_false, not_false_eq_true, Int.reduceEq, Nat.reduceEqDiff, Nat.reduceLeDiff, rGcd, V.ty.injEq, eq_self, List.not_mem_nil, beq_self_eq_true, HO.lst.injEq, HO.tup.injEq, tFor_eq, iRng1, iList, iTup, nat10, tSeq, rIxA, rSetA, rIsN, rIsT, tTp, tLs, itsO_tup, itsO_lst, tyO_tup, tyO_lst, tyO_dK, tyN_non, tyN_bl, tyN_int, tyN_str, tyN_ref, tyNs_lt, isB, upd_same, upd_upd, sizeLine_eq, List.mem_cons, String.reduceBEq, String.reduceEq, Bool.or_false, Bool.or_true, Bool.and_false, Bool.false_or, Bool.and_self, Bool.false_and, Bool.not_false, Bool.not_true, List.any_cons, List.any_nil, atI_0, setI_0, atI_1, setI_1, atI_2, setI_2, atI_3, setI_3, atI_4, setI_4, atI_5, setI_5, atI_6, setI_6, tAsg, gName, tOp, tUn, tVar, tC, tCons, L2.tNil, tRet, tIfS, tTest, tCB, tCall, rI, rI0, rU, tNext, tB, tAnd, tOr, tNot, tAndV, tOrV, tNotV, tDrop, tIf, tPar, gSub, rIxL, rIxT, rEq, rNe, rSetL, tBits,
    L2.start, List.map_cons, List.map_nil, List.cons_append, List.nil_append, List.append_nil, List.length_cons, List.length_nil, List.replicate, Nat.reduceAdd, Nat.reduceSub, Nat.zero_add, List.getElem?_cons_zero, List.getElem?_cons_succ, List.set_cons_zero, List.set_cons_succ,
    Option.some.injEq, exists_eq_left', exists_eq_left, V.int.injEq, V.bl.injEq, V.ref.injEq, V.str.injEq, List.cons.injEq, reduceCtorEq, and_true, true_and, false_and, and_false, exists_false, or_false, false_or, or_true, true_or, exists_const, CMul, CDiv, CPow, and_assoc, exists_and_left, exists_and_right, Int.reducePow, Int.reduceNeg, Int.reduceLT, Int.reduceLE, Nat.reducePow, Nat.reduceLT, Int.reduceToNat, gt_iff_lt, ge_iff_le, decide_eq_true_eq, Bool.not_eq_true', decide_eq_false_iff_not, scal, ↓reduceIte, Bool.false_eq_true]
    refine ⟨_, _, rfl, ?_, fun q hq p H4 s4 o4 => ?_⟩
    · have e : 2 ^ 10 ≤ 2 ^ 8000 := Nat.pow_le_pow_right (by omega) (by omega)
      omega
    · have hI := hq.2 (show 1 + j ≠ 0 by omega)
      exact k p q H4 ⟨o4, hI.1, is_sz (by omega) hI (by omega) (by omega)⟩ (((kp.trans kp2).trans kp3).trans (Kp.same s4)) (st3.same s4)
abbrev sDFracW : Stmt := topS 43
theorem scDFracW : FnScope ["_law_store_here", "_law_spot"] ["_law_store_here"] (defScope sDFracW) := ⟨rfl, rfl, rfl, by decide +kernel, rfl, by decide +kernel, by decide +kernel⟩
theorem k_DFracW (T : Bt K mg) (D : Dfn K mg "_law_frac_wide" sDFracW ["_law_store_here"]) (d__law_take : Kn P w K mg base 2 "_law_take" ["_law_store_here", "_law_many"] (spTake K)) (d__law_lowest : Kn P w K mg base 2 "_law_lowest" ["_law_top", "_law_bottom"] (spLowest K)) (d__law_great : Kn P w K mg base 3 "_law_great" ["_law_store_here"] (spInt K fun n => n.natAbs < 2 ^ 133)) (d__law_whole : Kn P w K mg base 3 "_law_whole" ["_law_store_here", "_law_reach"] (spLInt K)) (d__law_frac : Kn P w K mg base 3 "_law_frac" ["_law_store_here"] (spDFrac K 10)) : Kn P w K mg base 4 "_law_frac_wide" ["_law_store_here"] (spDFrac K 133) := by
  refine Kn.mk' D scDFracW (fun vs H Q E h => ?_) (fun f cdv A outer s H vs Q E hr h => ?_)
  · obtain ⟨s, rfl, _⟩ := h
    rfl
  obtain ⟨s, rfl, hS, k⟩ := h
  refine ⟨_, (pss_cons (ps_set (i := 1) scDFracW.nd rfl (.inl rfl) (pe_kn d__law_take hr (by rfl) (pa_cons (pv 0) (pa_cons pe_int pa_nil))))
      (pss_cons (ps_if (pt_cmpR op_eq (pv 1) pe_int (nomark _)) (pss_one (ps_ret (pe_kn d__law_lowest hr (by rfl) (pa_cons (pe_kn d__law_great hr (by rfl) (pa_cons (pv 0) pa_nil)) (pa_cons (pe_callB (call_max2 rfl) (by rfl) T.b_max (by decide +kernel) (pa_cons pe_int (pa_cons (pe_callB call_abs (by rfl) T.b_abs (by decide +kernel) (pa_cons (pe_kn d__law_great hr (by rfl) (pa_cons (pv 0) pa_nil)) pa_nil)) pa_nil))) pa_nil))))) pss_nil)
      (pss_cons (ps_if (pt_cmpR op_eq (pv 1) pe_int (nomark _)) (pss_one (ps_ret (pe_kn d__law_lowest hr (by rfl) (pa_cons (pe_kn d__law_whole hr (by rfl) (pa_cons (pv 0) (pa_cons (pe_op op_pow pe_int pe_int) pa_nil))) (pa_cons (pe_op op_add pe_int (pe_kn d__law_take hr (by rfl) (pa_cons (pv 0) (pa_cons pe_int pa_nil)))) pa_nil))))) pss_nil)
      (pss_one (ps_ret (pe_kn d__law_frac hr (by rfl) (pa_cons (pv 0) pa_nil))))))), ?_⟩
  simp only [cx_K, decide_true, decide_false, reduceCtorEq, gTp, gCons, gNil, ca_0, ca_1, ca_2, ca_3, ca_4, ca_5, ca_6, ca_7, ca_8, ca_9, ca_10, ca_11, ca_12, ca_13, ca_14, ca_15, ca_16, ca_17, ca_18, ca_19, ca_20, ca_21, ca_22, ca_23, ca_24, ca_25, ca_26, ca_27, ca_28, ca_29, ca_30, not_true_eq_false, not_false_eq_true, Int.reduceEq, Nat.reduceEqDiff, Nat.reduceLeDiff, rGcd, V.ty.injEq, eq_self, List.not_mem_nil, beq_self_eq_true, HO.lst.injEq, HO.tup.injEq, tFor_eq, iRng1, iList, iTup, nat10, tSeq, rIxA, rSetA, rIsN, rIsT, tTp, tLs, itsO_tup, itsO_lst, tyO_tup, tyO_lst, tyO_dK, tyN_non, tyN_bl, tyN_int, tyN_str, tyN_ref, tyNs_lt, isB, upd_same, upd_upd, sizeLine_eq, List.mem_cons, String.reduceBEq, String.reduceEq, Bool.or_false, Bool.or_true, Bool.and_false, Bool.false_or, Bool.and_self, Bool.false_and, Bool.not_false, Bool.not_true, List.any_cons, List.any_nil, atI_0, setI_0, atI_1, setI_1, atI_2, setI_2, atI_3, setI_3, atI_4, setI_4, atI_5, setI_5, atI_6, setI_6, tAsg, gName, tOp, tUn, tVar, tC, tCons, L2.tNil, tRet, tIfS, tTest, tCB, tCall, rI, rI0, rU, tNext, tB, tAnd, tOr, tNot, tAndV, tOrV, tNotV, tDrop, tIf, tPar, gSub, rIxL, rIxT, rEq, rNe, rSetL, tBits,
    L2.start, List.map_cons, List.map_nil, List.cons_append, List.nil_append, List.append_nil, List.length_cons, List.length_nil, List.replicate, Nat.reduceAdd, Nat.reduceSub, Nat.zero_add, List.getElem?_cons_zero, List.getElem?_cons_succ, List.set_cons_zero, List.set_cons_succ,
    Option.some.injEq, exists_eq_left', exists_eq_left, V.int.injEq, V.bl.injEq, V.ref.injEq, V.str.injEq, List.cons.injEq, reduceCtorEq, and_true, true_and, false_and, and_false, exists_false, or_false, false_or, or_true, true_or, exists_const, CMul, CDiv, CPow, and_assoc, exists_and_left, exists_and_right, Int.reducePow, Int.reduceNeg, Int.reduceLT, Int.reduceLE, Nat.reducePow, Nat.reduceLT, Int.reduceToNat, gt_iff_lt, ge_iff_le, decide_eq_true_eq, Bool.not_eq_true', decide_eq_false_iff_not, scal, ↓reduceIte, Bool.false_eq_true]
  refine ⟨s, 8, rfl, hS, by omega, fun i H1 z0 z1 kp st => ?_⟩
  simp only [cx_K, decide_true, decide_false, reduceCtorEq, gTp, gCons, gNil, ca_0, ca_1, ca_2, ca_3, ca_4, ca_5, ca_6, ca_7, ca_8, ca_9, ca_10, ca_11, ca_12, ca_13, ca_14, ca_15, ca_16, ca_17, ca_18, ca_19, ca_20, ca_21, ca_22, ca_23, ca_24, ca_25, ca_26, ca_27, ca_28, ca_29, ca_30, not_true_eq_false, not_false_eq_true, Int.reduceEq, Nat.reduceEqDiff, Nat.reduceLeDiff, rGcd, V.ty.injEq, eq_self, List.not_mem_nil, beq_self_eq_true, HO.lst.injEq, HO.tup.injEq, tFor_eq, iRng1, iList, iTup, nat10, tSeq, rIxA, rSetA, rIsN, rIsT, tTp, tLs, itsO_tup, itsO_lst, tyO_tup, tyO_lst, tyO_dK, tyN_non, tyN_bl, tyN_int, tyN_str, tyN_ref, tyNs_lt, isB, upd_same, upd_upd, sizeLine_eq, List.mem_cons, String.reduceBEq, String.reduceEq, Bool.or_false, Bool.or_true, Bool.and_false, Bool.false_or, Bool.and_self, Bool.false_and, Bool.not_false, Bool.not_true, List.any_cons, List.any_nil, atI_0, setI_0, atI_1, setI_1, atI_2, setI_2, atI_3, setI_3, atI_4, setI_4, atI_5, setI_5, atI_6, setI_6, tAsg, gName, tOp, tUn, tVar, tC, tCons, L2.tNil, tRet, tIfS, tTest, tCB, tCall, rI, rI0, rU, tNext, tB, tAnd, tOr, tNot, tAndV, tOrV, tNotV, tDrop, tIf, tPar, gSub, rIxL, rIxT, rEq, rNe, rSetL, tBits,
    L2.start, List.map_cons, List.map_nil, List.cons_append, List.nil_append, List.append_nil, List.length_cons, List.length_nil, List.replicate, Nat.reduceAdd, Nat.reduceSub, Nat.zero_add, List.getElem?_cons_zero, List.getElem?_cons_succ, List.set_cons_zero, List.set_cons_succ,
    Option.some.injEq, exists_eq_left', exists_eq_left, V.int.injEq, V.bl.injEq, V.ref.injEq, V.str.injEq, List.cons.injEq, reduceCtorEq, and_true, true_and, false_and, and_false, exists_false, or_false, false_or, or_true, true_or, exists_const, CMul, CDiv, CPow, and_assoc, exists_and_left, exists_and_right, Int.reducePow, Int.reduceNeg, Int.reduceLT, Int.reduceLE, Nat.reducePow, Nat.reduceLT, Int.reduceToNat, gt_iff_lt, ge_iff_le, decide_eq_true_eq, Bool.not_eq_true', decide_eq_false_iff_not, scal, ↓reduceIte, Bool.false_eq_true]
  have big : 2 ^ 133 ≤ 2 ^ 8000 := Nat.pow_le_pow_right (by omega) (by omega)
  refine ite2 (fun h => ?_) (fun h => ite2 (fun h' => ?_) (fun h' => ?_))
  · refine ⟨s, rfl, st, fun t H2 ht kp2 st2 => ⟨s, rfl, st2, fun b H3 hb kp3 st3 => ?_⟩⟩
    simp only [abs_if, cx_K, decide_true, decide_false, reduceCtorEq, gTp, gCons, gNil, ca_0, ca_1, ca_2, ca_3, ca_4, ca_5, ca_6, ca_7, ca_8, ca_9, ca_10, ca_11, ca_12, ca_13, ca_14, ca_15, ca_16, ca_17, ca_18, ca_19, ca_20, ca_21, ca_22, ca_23, ca_24, ca_25, ca_26, ca_27, ca_28, ca_29, ca_30, not_true_eq_false, not_false_eq_true, Int.reduceEq, Nat.reduceEqDiff, Nat.reduceLeDiff, rGcd, V.ty.injEq, eq_self, List.not_mem_nil, beq_self_eq_true, HO.lst.injEq, HO.tup.injEq, tFor_eq, iRng1, iList, iTup, nat10, tSeq, rIxA, rSetA, rIsN, rIsT, tTp, tLs, itsO_tup, itsO_lst, tyO_tup, tyO_lst, tyO_dK, tyN_non, tyN_bl, tyN_int, tyN_str, tyN_ref, tyNs_lt, isB, upd_same, upd_upd, sizeLine_eq, List.mem_cons, String.reduceBEq, String.reduceEq, Bool.or_false, Bool.or_true, Bool.and_false, Bool.false_or, Bool.and_self, Bool.false_and, Bool.not_false, Bool.not_true, List.any_cons, List.any_nil, atI_0, setI_0, atI_1, setI_1, atI_2, setI_2, atI_3, setI_3, atI_4, setI_4, atI_5, setI_5, atI_6, setI_6, tAsg, gName, tOp, tUn, tVar, tC, tCons, L2.tNil, tRet, tIfS, tTest, tCB, tCall, rI, rI0, rU, tNext, tB, tAnd, tOr, tNot, tAndV, tOrV, tNotV, tDrop, tIf, tPar, gSub, rIxL, rIxT, rEq, rNe, rSetL, tBits,
    L2.start, List.map_cons, List.map_nil, List.cons_append, List.nil_append, List.append_nil, List.length_cons, List.length_nil, List.replicate, Nat.reduceAdd, Nat.reduceSub, Nat.zero_add, List.getElem?_cons_zero, List.getElem?_cons_succ, List.set_cons_zero, List.set_cons_succ,
    Option.some.injEq, exists_eq_left', exists_eq_left, V.int.injEq, V.bl.injEq, V.ref.injEq, V.str.injEq, List.cons.injEq, reduceCtorEq, and_true, true_and, false_and, and_false, exists_false, or_false, false_or, or_true, true_or, exists_const, CMul, CDiv, CPow, and_assoc, exists_and_left, exists_and_right, Int.reducePow, Int.reduceNeg, Int.reduceLT, Int.reduceLE, Nat.reducePow, Nat.reduceLT, Int.reduceToNat, gt_iff_lt, ge_iff_le, decide_eq_true_eq, Bool.not_eq_true', decide_eq_false_iff_not, scal, ↓reduceIte, Bool.false_eq_true]
    have hd : (if 1 < (b.natAbs : Int) then (b.natAbs : Int) else 1) ≠ 0 ∧ (if 1 < (b.natAbs : Int) then (b.natAbs : Int) else 1).natAbs < 2 ^ 133 := by
      have hb' : b.natAbs < 2 ^ 133 := hb
      split <;> refine ⟨by omega, by omega⟩
    generalize (if 1 < (b.natAbs : Int) then (b.natAbs : Int) else 1) = d at hd ⊢
    refine ⟨_, _, rfl, by omega, fun q hq p H4 s4 o4 => ?_⟩
    have hI := hq.2 hd.1
    exact k p q H4 ⟨o4, hI.1, is_sz hd.1 hI ht hd.2⟩ (((kp.trans kp2).trans kp3).trans (Kp.same s4)) (st3.same s4)
  · refine ⟨s, _, rfl, st, by omega, by omega, fun t H2 t0 t1 kp2 st2 => ⟨s, 1000, rfl, st2, by omega, fun b H3 b0 b1 kp3 st3 => ?_⟩⟩
    simp only [cx_K, decide_true, decide_false, reduceCtorEq, gTp, gCons, gNil, ca_0, ca_1, ca_2, ca_3, ca_4, ca_5, ca_6, ca_7, ca_8, ca_9, ca_10, ca_11, ca_12, ca_13, ca_14, ca_15, ca_16, ca_17, ca_18, ca_19, ca_20, ca_21, ca_22, ca_23, ca_24, ca_25, ca_26, ca_27, ca_28, ca_29, ca_30, not_true_eq_false, not_false_eq_true, Int.reduceEq, Nat.reduceEqDiff, Nat.reduceLeDiff, rGcd, V.ty.injEq, eq_self, List.not_mem_nil, beq_self_eq_true, HO.lst.injEq, HO.tup.injEq, tFor_eq, iRng1, iList, iTup, nat10, tSeq, rIxA, rSetA, rIsN, rIsT, tTp, tLs, itsO_tup, itsO_lst, tyO_tup, tyO_lst, tyO_dK, tyN_non, tyN_bl, tyN_int, tyN_str, tyN_ref, tyNs_lt, isB, upd_same, upd_upd, sizeLine_eq, List.mem_cons, String.reduceBEq, String.reduceEq, Bool.or_false, Bool.or_true, Bool.and_false, Bool.false_or, Bool.and_self, Bool.false_and, Bool.not_false, Bool.not_true, List.any_cons, List.any_nil, atI_0, setI_0, atI_1, setI_1, atI_2, setI_2, atI_3, setI_3, atI_4, setI_4, atI_5, setI_5, atI_6, setI_6, tAsg, gName, tOp, tUn, tVar, tC, tCons, L2.tNil, tRet, tIfS, tTest, tCB, tCall, rI, rI0, rU, tNext, tB, tAnd, tOr, tNot, tAndV, tOrV, tNotV, tDrop, tIf, tPar, gSub, rIxL, rIxT, rEq, rNe, rSetL, tBits,
    L2.start, List.map_cons, List.map_nil, List.cons_append, List.nil_append, List.append_nil, List.length_cons, List.length_nil, List.replicate, Nat.reduceAdd, Nat.reduceSub, Nat.zero_add, List.getElem?_cons_zero, List.getElem?_cons_succ, List.set_cons_zero, List.set_cons_succ,
    Option.some.injEq, exists_eq_left', exists_eq_left, V.int.injEq, V.bl.injEq, V.ref.injEq, V.str.injEq, List.cons.injEq, reduceCtorEq, and_true, true_and, false_and, and_false, exists_false, or_false, false_or, or_true, true_or, exists_const, CMul, CDiv, CPow, and_assoc, exists_and_left, exists_and_right, Int.reducePow, Int.reduceNeg, Int.reduceLT, Int.reduceLE, Nat.reducePow, Nat.reduceLT, Int.reduceToNat, gt_iff_lt, ge_iff_le, decide_eq_true_eq, Bool.not_eq_true', decide_eq_false_iff_not, scal, ↓reduceIte, Bool.false_eq_true]
    refine ⟨_, _, rfl, by omega, fun q hq p H4 s4 o4 => ?_⟩
    have hI := hq.2 (show 1 + b ≠ 0 by omega)
    exact k p q H4 ⟨o4, hI.1, is_sz (by omega) hI (by omega) (by omega)⟩ (((kp.trans kp2).trans kp3).trans (Kp.same s4)) (st3.same s4)
  · exact ⟨s, rfl, st, fun a q H2 hq kp2 st2 => k a q H2 (hq.mono (by omega)) (kp.trans kp2) st2⟩
/-- the script, read alone -/
def spStore (K : PySem.W.Frag) : Sp := fun vs H Q _ => ∃ (a : Addr) (ns : List Int), vs = [.ref a] ∧ SqL K H a (ns.map V.int) ∧ ∀ s H', Same H H' → Sto K H' s → Q (.ref s) H'
def StoreI (a : Addr) (H : Hp) (_ : Nat) (σ : L2.St) (H' : Hp) : Prop := ∃ (v : Int) (y : Option V), σ = [some (.ref a), some (.int v), y] ∧ H' = H
abbrev sStore : Stmt := topS 28
theorem scStore : FnScope ["_law_script", "_law_seed", "_law_cell"] ["_law_script"] (defScope sStore) := ⟨rfl, rfl, rfl, by decide +kernel, rfl, by decide +kernel, by decide +kernel⟩
theorem k_Store (T : Bt K mg) (D : Dfn K mg "_law_store" sStore ["_law_script"]) : Kn P w K mg base 1 "_law_store" ["_law_script"] (spStore K) := by
  refine Kn.mk' D scStore (fun vs H Q E h => ?_) (fun f cdv A outer s H vs Q E hr h => ?_)
  · obtain ⟨a, ns, rfl, _⟩ := h
    rfl
  obtain ⟨a, ns, rfl, hS, k⟩ := h
  refine ⟨_, (pss_cons (ps_set (i := 1) scStore.nd rfl (.inl rfl) (pe_op op_add (pe_callB call_len_seq (by rfl) T.b_len PySem.boot_len (pa_cons (pv 0) pa_nil)) pe_int))
      (pss_cons (ps_for PassesOwn.never rfl (pi_list (pv 0)) (pg_name (i := 2) scStore.nd rfl (.inl rfl)) (pss_one (ps_set (i := 1) scStore.nd rfl (.inl rfl) (pe_op op_mod (pe_op op_add (pe_op op_add (pe_op op_mul (pv 1) pe_int) (pe_op op_mod (pe_callTy call_int1 (by rfl) T.b_int (by decide +kernel) (pa_cons (pv 2) pa_nil)) pe_int)) pe_int) pe_int))))
      (pss_one (ps_ret (pe_ls (pa_cons (pe_callTy call_listK (by rfl) T.b_list (by decide +kernel) (pa_cons (pv 0) pa_nil)) (pa_cons pe_int (pa_cons pe_int (pa_cons pe_int (pa_cons (pv 1) (pa_cons pe_int (pa_cons pe_int pa_nil)))))))))))), ?_⟩
  simp only [cx_K, decide_true, decide_false, reduceCtorEq, gTp, gCons, gNil, ca_0, ca_1, ca_2, ca_3, ca_4, ca_5, ca_6, ca_7, ca_8, ca_9, ca_10, ca_11, ca_12, ca_13, ca_14, ca_15, ca_16, ca_17, ca_18, ca_19, ca_20, ca_21, ca_22, ca_23, ca_24, ca_25, ca_26, ca_27, ca_28, ca_29, ca_30, not_true_eq_false, not_false_eq_true, Int.reduceEq, Nat.reduceEqDiff, Nat.reduceLeDiff, rGcd, V.ty.injEq, eq_self, List.not_mem_nil, beq_self_eq_true, HO.lst.injEq, HO.tup.injEq, tFor_eq, iRng1, iList, iTup, nat10, tSeq, rIxA, rSetA, rIsN, rIsT, tTp, tLs, itsO_tup, itsO_lst, tyO_tup, tyO_lst, tyO_dK, tyN_non, tyN_bl, tyN_int, tyN_str, tyN_ref, tyNs_lt, isB, upd_same, upd_upd, sizeLine_eq, List.mem_cons, String.reduceBEq, String.reduceEq, Bool.or_false, Bool.or_true, Bool.and_false, Bool.false_or, Bool.and_self, Bool.false_and, Bool.not_false, Bool.not_true, List.any_cons, List.any_nil, atI_0, setI_0, atI_1, setI_1, atI_2, setI_2, atI_3, setI_3, atI_4, setI_4, atI_5, setI_5, atI_6, setI_6, tAsg, gName, tOp, tUn, tVar, tC, tCons, L2.tNil, tRet, tIfS, tTest, tCB, tCall, rI, rI0, rU, tNext, tB, tAnd, tOr, tNot, tAndV, tOrV, tNotV, tDrop, tIf, tPar, gSub, rIxL, rIxT, rEq, rNe, rSetL, tBits,
    L2.start, List.map_cons, List.map_nil, List.cons_append, List.nil_append, List.append_nil, List.length_cons, List.length_nil, List.replicate, Nat.reduceAdd, Nat.reduceSub, Nat.zero_add, List.getElem?_cons_zero, List.getElem?_cons_succ, List.set_cons_zero, List.set_cons_succ,
    Option.some.injEq, exists_eq_left', exists_eq_left, V.int.injEq, V.bl.injEq, V.ref.injEq, V.str.injEq, List.cons.injEq, reduceCtorEq, and_true, true_and, false_and, and_false, exists_false, or_false, false_or, or_true, true_or, exists_const, CMul, CDiv, CPow, and_assoc, exists_and_left, exists_and_right, Int.reducePow, Int.reduceNeg, Int.reduceLT, Int.reduceLE, Nat.reducePow, Nat.reduceLT, Int.reduceToNat, gt_iff_lt, ge_iff_le, decide_eq_true_eq, Bool.not_eq_true', decide_eq_false_iff_not, scal, ↓reduceIte, Bool.false_eq_true]
  refine ⟨_, .inl hS, ⟨_, hS⟩, forI_list (xs := ns.map V.int) (StoreI a H) ⟨_, none, rfl, rfl⟩ ?_ ?_ ?_⟩
  · rintro i σ H' _ ⟨v, y, rfl, rfl⟩
    exact hS
  · rintro i x σ H' hi ⟨v, y, rfl, rfl⟩
    obtain ⟨z, rfl⟩ : ∃ z, x = V.int z := by
      rw [List.getElem?_map] at hi
      cases e : ns[i]? with
      | none => rw [e] at hi; cases hi
      | some z => rw [e] at hi; exact ⟨z, (Option.some.inj hi).symm⟩
    simp only [cx_K, decide_true, decide_false, reduceCtorEq, gTp, gCons, gNil, ca_0, ca_1, ca_2, ca_3, ca_4, ca_5, ca_6, ca_7, ca_8, ca_9, ca_10, ca_11, ca_12, ca_13, ca_14, ca_15, ca_16, ca_17, ca_18, ca_19, ca_20, ca_21, ca_22, ca_23, ca_24, ca_25, ca_26, ca_27, ca_28, ca_29, ca_30, not_true_eq_false, not_false_eq_true, Int.reduceEq, Nat.reduceEqDiff, Nat.reduceLeDiff, rGcd, V.ty.injEq, eq_self, List.not_mem_nil, beq_self_eq_true, HO.lst.injEq, HO.tup.injEq, tFor_eq, iRng1, iList, iTup, nat10, tSeq, rIxA, rSetA, rIsN, rIsT, tTp, tLs, itsO_tup, itsO_lst, tyO_tup, tyO_lst, tyO_dK, tyN_non, tyN_bl, tyN_int, tyN_str, tyN_ref, tyNs_lt, isB, upd_same, upd_upd, sizeLine_eq, List.mem_cons, String.reduceBEq, String.reduceEq, Bool.or_false, Bool.or_true, Bool.and_false, Bool.false_or, Bool.and_self, Bool.false_and, Bool.not_false, Bool.not_true, List.any_cons, List.any_nil, atI_0, setI_0, atI_1, setI_1, atI_2, setI_2, atI_3, setI_3, atI_4, setI_4, atI_5, setI_5, atI_6, setI_6, tAsg, gName, tOp, tUn, tVar, tC, tCons, L2.tNil, tRet, tIfS, tTest, tCB, tCall, rI, rI0, rU, tNext, tB, tAnd, tOr, tNot, tAndV, tOrV, tNotV, tDrop, tIf, tPar, gSub, rIxL, rIxT, rEq, rNe, rSetL, tBits,
    L2.start, List.map_cons, List.map_nil, List.cons_append, List.nil_append, List.append_nil, List.length_cons, List.length_nil, List.replicate, Nat.reduceAdd, Nat.reduceSub, Nat.zero_add, List.getElem?_cons_zero, List.getElem?_cons_succ, List.set_cons_zero, List.set_cons_succ,
    Option.some.injEq, exists_eq_left', exists_eq_left, V.int.injEq, V.bl.injEq, V.ref.injEq, V.str.injEq, List.cons.injEq, reduceCtorEq, and_true, true_and, false_and, and_false, exists_false, or_false, false_or, or_true, true_or, exists_const, CMul, CDiv, CPow, and_assoc, exists_and_left, exists_and_right, Int.reducePow, Int.reduceNeg, Int.reduceLT, Int.reduceLE, Nat.reducePow, Nat.reduceLT, Int.reduceToNat, gt_iff_lt, ge_iff_le, decide_eq_true_eq, Bool.not_eq_true', decide_eq_false_iff_not, scal, ↓reduceIte, Bool.false_eq_true]
    exact ⟨_, _, rfl, rfl⟩
  · rintro σ H' ⟨v, y, rfl, rfl⟩
    simp only [cx_K, decide_true, decide_false, reduceCtorEq, gTp, gCons, gNil, ca_0, ca_1, ca_2, ca_3, ca_4, ca_5, ca_6, ca_7, ca_8, ca_9, ca_10, ca_11, ca_12, ca_13, ca_14, ca_15, ca_16, ca_17, ca_18, ca_19, ca_20, ca_21, ca_22, ca_23, ca_24, ca_25, ca_26, ca_27, ca_28, ca_29, ca_30, not_true_eq_false, not_false_eq_true, Int.reduceEq, Nat.reduceEqDiff, Nat.reduceLeDiff, rGcd, V.ty.injEq, eq_self, List.not_mem_nil, beq_self_eq_true, HO.lst.injEq, HO.tup.injEq, tFor_eq, iRng1, iList, iTup, nat10, tSeq, rIxA, rSetA, rIsN, rIsT, tTp, tLs, itsO_tup, itsO_lst, tyO_tup, tyO_lst, tyO_dK, tyN_non, tyN_bl, tyN_int, tyN_str, tyN_ref, tyNs_lt, isB, upd_same, upd_upd, sizeLine_eq, List.mem_cons, String.reduceBEq, String.reduceEq, Bool.or_false, Bool.or_true, Bool.and_false, Bool.false_or, Bool.and_self, Bool.false_and, Bool.not_false, Bool.not_true, List.any_cons, List.any_nil, atI_0, setI_0, atI_1, setI_1, atI_2, setI_2, atI_3, setI_3, atI_4, setI_4, atI_5, setI_5, atI_6, setI_6, tAsg, gName, tOp, tUn, tVar, tC, tCons, L2.tNil, tRet, tIfS, tTest, tCB, tCall, rI, rI0, rU, tNext, tB, tAnd, tOr, tNot, tAndV, tOrV, tNotV, tDrop, tIf, tPar, gSub, rIxL, rIxT, rEq, rNe, rSetL, tBits,
    L2.start, List.map_cons, List.map_nil, List.cons_append, List.nil_append, List.append_nil, List.length_cons, List.length_nil, List.replicate, Nat.reduceAdd, Nat.reduceSub, Nat.zero_add, List.getElem?_cons_zero, List.getElem?_cons_succ, List.set_cons_zero, List.set_cons_succ,
    Option.some.injEq, exists_eq_left', exists_eq_left, V.int.injEq, V.bl.injEq, V.ref.injEq, V.str.injEq, List.cons.injEq, reduceCtorEq, and_true, true_and, false_and, and_false, exists_false, or_false, false_or, or_true, true_or, exists_const, CMul, CDiv, CPow, and_assoc, exists_and_left, exists_and_right, Int.reducePow, Int.reduceNeg, Int.reduceLT, Int.reduceLE, Nat.reducePow, Nat.reduceLT, Int.reduceToNat, gt_iff_lt, ge_iff_le, decide_eq_true_eq, Bool.not_eq_true', decide_eq_false_iff_not, scal, ↓reduceIte, Bool.false_eq_true]
    refine ⟨_, .inl hS, fun l hl kl => ?_⟩
    intro s hs ks
    have s1 := Same.new hl (.lst (ns.map V.int))
    have e1 : upd H' l (.lst (ns.map V.int)) l = some (.lst (ns.map V.int)) := upd_same
    have n1 : s ≠ l := by rintro rfl; rw [upd_same] at hs; cases hs
    exact k s _ (s1.trans (Same.new hs _)) ⟨l, ns, 0, 0, 0, v, 0, 0, upd_same, by rw [upd_ne (Ne.symm n1)]; exact e1, n1, Int.le_refl 0, ks, kl⟩
end
end My

namespace My
open PySem PySem.Spec PyProof.Rows L2
section
variable {P : Program} {w : World} {K : PySem.W.Frag} {mg : Str → Option Value} {base : Heap}
/-- the same data, n levels deep at most -/
def scv : V → Bool
  | .non => true
  | .bl _ => true
  | .int _ => true
  | .str _ => true
  | _ => false
def Eqv (K : PySem.W.Frag) (H : Hp) : Nat → V → V → Prop
  | 0, x, y => x = y ∧ scv x = true
  | n + 1, x, y => (x = y ∧ scv x = true) ∨ ∃ (a b : Addr) (xs ys : List V), x = .ref a ∧ y = .ref b ∧ ((ob K H a = some (.tup xs) ∧ ob K H b = some (.tup ys)) ∨ (ob K H a = some (.lst xs) ∧ ob K H b = some (.lst ys))) ∧ xs.length = ys.length ∧ ys.length ≤ 1000 ∧
      ∀ (i : Nat) x y, xs[i]? = some x → ys[i]? = some y → Eqv K H n x y
theorem Eqv.same {H H' : Hp} (e : Same H H') : ∀ {n : Nat} {x y : V}, Eqv K H n x y → Eqv K H' n x y
  | 0, _, _, h => h
  | n + 1, x, y, .inl h => .inl h
  | n + 1, x, y, .inr ⟨a, b, xs, ys, h1, h2, h3, h4, h5, h6⟩ =>
    .inr ⟨a, b, xs, ys, h1, h2, h3.imp (fun z => ⟨ob_same e z.1, ob_same e z.2⟩) (fun z => ⟨ob_same e z.1, ob_same e z.2⟩), h4, h5, fun i x y hx hy => (h6 i x y hx hy).same e⟩
theorem Eqv.up {H : Hp} : ∀ {n : Nat} {x y : V}, Eqv K H n x y → Eqv K H (n + 1) x y
  | 0, _, _, h => .inl h
  | n + 1, x, y, .inl h => .inl h
  | n + 1, x, y, .inr ⟨a, b, xs, ys, h1, h2, h3, h4, h5, h6⟩ => .inr ⟨a, b, xs, ys, h1, h2, h3, h4, h5, fun i x y hx hy => (h6 i x y hx hy).up⟩
def spSame (K : PySem.W.Frag) : Nat → Sp
  | 0 => fun _ _ _ _ => False
  | n + 1 => fun vs H Q _ => ∃ x y, vs = [x, y] ∧ Eqv K H n x y ∧ ∀ H', Same H H' → Q (.bl true) H'
theorem Eqv.split {H : Hp} {n : Nat} {x y : V} (h : Eqv K H n x y) : (x = y ∧ scv x = true) ∨ ∃ m, n = m + 1 ∧ ∃ (a b : Addr) (xs ys : List V), x = .ref a ∧ y = .ref b ∧ ((ob K H a = some (.tup xs) ∧ ob K H b = some (.tup ys)) ∨ (ob K H a = some (.lst xs) ∧ ob K H b = some (.lst ys))) ∧ xs.length = ys.length ∧ ys.length ≤ 1000 ∧
    ∀ (i : Nat) x y, xs[i]? = some x → ys[i]? = some y → Eqv K H m x y := by
  cases n with
  | zero => exact .inl h
  | succ m =>
    rcases h with h | h
    · exact .inl h
    · exact .inr ⟨m, rfl, h⟩
def SameI (H : Hp) (a b : Addr) (_ : Nat) (σ : L2.St) (H' : Hp) : Prop := ∃ z, σ = [some (.ref a), some (.ref b), z] ∧ Same H H'
theorem Kn.none {x : Str} {ps : List Str} {st : Stmt} (D : Dfn K mg x st ps) : Kn P w K mg base 0 x ps (fun _ _ _ _ => False) := by
  obtain ⟨f, fd, F, m, b⟩ := D.ex
  exact ⟨f, fd, m, F.kp, b, ⟨fun vs H Q E h => h.elim, fun A outer s H args us vs Q E _ _ _ _ h => h.elim⟩⟩
abbrev sSame : Stmt := topS 39
theorem scSame : FnScope ["_law_told", "_law_due", "_law_k"] ["_law_told", "_law_due"] (defScope sSame) := ⟨rfl, rfl, rfl, by decide +kernel, rfl, by decide +kernel, by decide +kernel⟩
theorem k_Same (n : Nat) (T : Bt K mg) (D : Dfn K mg "_law_same" sSame ["_law_told", "_law_due"]) (d__law_is_whole : Kn P w K mg base 1 "_law_is_whole" ["_law_told"] (spWhole K)) (d__law_same : Kn P w K mg base (n + 1) "_law_same" ["_law_told", "_law_due"] (spSame K n)) : Kn P w K mg base (n + 2) "_law_same" ["_law_told", "_law_due"] (spSame K (n + 1)) := by
  refine Kn.mk' D scSame (fun vs H Q E h => ?_) (fun f cdv A outer s H vs Q E hr h => ?_)
  · obtain ⟨x, y, rfl, _⟩ := h
    rfl
  obtain ⟨x, y, rfl, he, k⟩ := h
  refine ⟨_, (pss_cons (ps_if (pt_cmpR op_isN (pv 1) pe_non (nomark _)) (pss_one (ps_ret (pe_cmpR op_isN (pv 0) pe_non (nomark _)))) pss_nil)
      (pss_cons (ps_if (pt_val (pe_callB call_isN (by rfl) T.b_isinstance (by decide +kernel) (pa_cons (pv 1) (pa_cons (pe_bltn (v := .ty "bool") (by rfl) T.b_bool (by decide +kernel) rfl) pa_nil)))) (pss_one (ps_ret (pe_and (pe_callB call_isN (by rfl) T.b_isinstance (by decide +kernel) (pa_cons (pv 0) (pa_cons (pe_bltn (v := .ty "bool") (by rfl) T.b_bool (by decide +kernel) rfl) pa_nil))) (pe_one (pe_cmpR op_eq (pv 0) (pv 1) (nomark _)))))) pss_nil)
      (pss_cons (ps_if (pt_val (pe_callB call_isN (by rfl) T.b_isinstance (by decide +kernel) (pa_cons (pv 1) (pa_cons (pe_bltn (v := .ty "int") (by rfl) T.b_int (by decide +kernel) rfl) pa_nil)))) (pss_one (ps_ret (pe_and (pe_kn d__law_is_whole hr (by rfl) (pa_cons (pv 0) pa_nil)) (pe_one (pe_cmpR op_eq (pv 0) (pv 1) (nomark _)))))) pss_nil)
      (pss_cons (ps_if (pt_val (pe_callB call_isN (by rfl) T.b_isinstance (by decide +kernel) (pa_cons (pv 1) (pa_cons (pe_bltn (v := .ty "str") (by rfl) T.b_str (by decide +kernel) rfl) pa_nil)))) (pss_one (ps_ret (pe_and (pe_callB call_isN (by rfl) T.b_isinstance (by decide +kernel) (pa_cons (pv 0) (pa_cons (pe_bltn (v := .ty "str") (by rfl) T.b_str (by decide +kernel) rfl) pa_nil))) (pe_one (pe_cmpR op_eq (pv 0) (pv 1) (nomark _)))))) pss_nil)
      (pss_cons (ps_if (pt_val (pe_callB call_isN (by rfl) T.b_isinstance (by decide +kernel) (pa_cons (pv 1) (pa_cons (pe_bltn (v := .ty "dict") (by rfl) T.b_dict (by decide +kernel) rfl) pa_nil)))) (pss_cons (ps_if (PW.pt (pw_or (pt_not (pt_val (pe_callB call_isN (by rfl) T.b_isinstance (by decide +kernel) (pa_cons (pv 0) (pa_cons (pe_bltn (v := .ty "dict") (by rfl) T.b_dict (by decide +kernel) rfl) pa_nil))))) (pw_or1 (pt_not (pt_val (pe_kn d__law_same hr (by rfl) (pa_cons (pe_callTy call_list_of (by rfl) T.b_list (by decide +kernel) (pa_cons (pv 0) pa_nil)) (pa_cons (pe_callTy call_list_of (by rfl) T.b_list (by decide +kernel) (pa_cons (pv 1) pa_nil)) pa_nil)))))))) (pss_one (ps_ret pe_bl)) pss_nil)
      (pss_one ps_never)) pss_nil)
      (pss_cons (ps_if (PW.pt (pw_and (pt_val (pe_callB call_isN (by rfl) T.b_isinstance (by decide +kernel) (pa_cons (pv 1) (pa_cons (pe_bltn (v := .ty "list") (by rfl) T.b_list (by decide +kernel) rfl) pa_nil)))) (pw_and1 (pt_not (pt_val (pe_callB call_isN (by rfl) T.b_isinstance (by decide +kernel) (pa_cons (pv 0) (pa_cons (pe_bltn (v := .ty "list") (by rfl) T.b_list (by decide +kernel) rfl) pa_nil)))))))) (pss_one (ps_ret pe_bl)) pss_nil)
      (pss_cons (ps_if (PW.pt (pw_and (pt_val (pe_callB call_isN (by rfl) T.b_isinstance (by decide +kernel) (pa_cons (pv 1) (pa_cons (pe_bltn (v := .ty "tuple") (by rfl) T.b_tuple (by decide +kernel) rfl) pa_nil)))) (pw_and1 (pt_not (pt_val (pe_callB call_isN (by rfl) T.b_isinstance (by decide +kernel) (pa_cons (pv 0) (pa_cons (pe_bltn (v := .ty "tuple") (by rfl) T.b_tuple (by decide +kernel) rfl) pa_nil)))))))) (pss_one (ps_ret pe_bl)) pss_nil)
      (pss_cons (ps_if (PW.pt (pw_or (pt_not (pt_val (pe_callB call_isT (by rfl) T.b_isinstance (by decide +kernel) (pa_cons (pv 1) (pa_cons (pe_tp (pa_cons (pe_bltn (v := .ty "list") (by rfl) T.b_list (by decide +kernel) rfl) (pa_cons (pe_bltn (v := .ty "tuple") (by rfl) T.b_tuple (by decide +kernel) rfl) pa_nil))) pa_nil))))) (pw_or1 (pt_cmpR op_ne (pe_callB call_lenA (by rfl) T.b_len PySem.boot_len (pa_cons (pv 0) pa_nil)) (pe_callB call_lenA (by rfl) T.b_len PySem.boot_len (pa_cons (pv 1) pa_nil)) (nomark _))))) (pss_one (ps_ret pe_bl)) pss_nil)
      (pss_cons (ps_for PassesOwn.never rfl (pi_range1 (by rfl) T.b_range (pa_cons (pe_callB call_lenA (by rfl) T.b_len PySem.boot_len (pa_cons (pv 1) pa_nil)) pa_nil)) (pg_name (i := 2) scSame.nd rfl (.inl rfl)) (pss_one (ps_if (pt_not (pt_val (pe_kn d__law_same hr (by rfl) (pa_cons (pe_ix ix_any (pv 0) (pv 2) (fun _ _ => rfl)) (pa_cons (pe_ix ix_any (pv 1) (pv 2) (fun _ _ => rfl)) pa_nil))))) (pss_one (ps_ret pe_bl)) pss_nil)))
      (pss_one (ps_ret pe_bl))))))))))), ?_⟩
  rcases he.split with ⟨rfl, hsc⟩ | ⟨m, rfl, a, b, xs, ys, rfl, rfl, ho, hl, h1000, hi⟩
  · cases x with
    | non =>
      simp only [cx_K, decide_true, decide_false, reduceCtorEq, gTp, gCons, gNil, ca_0, ca_1, ca_2, ca_3, ca_4, ca_5, ca_6, ca_7, ca_8, ca_9, ca_10, ca_11, ca_12, ca_13, ca_14, ca_15, ca_16, ca_17, ca_18, ca_19, ca_20, ca_21, ca_22, ca_23, ca_24, ca_25, ca_26, ca_27, ca_28, ca_29, ca_30, not_true_eq_false, not_false_eq_true, Int.reduceEq, Nat.reduceEqDiff, Nat.reduceLeDiff, rGcd, V.ty.injEq, eq_self, List.not_mem_nil, beq_self_eq_true, HO.lst.injEq, HO.tup.injEq, tFor_eq, iRng1, iList, iTup, nat10, tSeq, rIxA, rSetA, rIsN, rIsT, tTp, tLs, itsO_tup, itsO_lst, tyO_tup, tyO_lst, tyO_dK, tyN_non, tyN_bl, tyN_int, tyN_str, tyN_ref, tyNs_lt, isB, upd_same, upd_upd, sizeLine_eq, List.mem_cons, String.reduceBEq, String.reduceEq, Bool.or_false, Bool.or_true, Bool.and_false, Bool.false_or, Bool.and_self, Bool.false_and, Bool.not_false, Bool.not_true, List.any_cons, List.any_nil, atI_0, setI_0, atI_1, setI_1, atI_2, setI_2, atI_3, setI_3, atI_4, setI_4, atI_5, setI_5, atI_6, setI_6, tAsg, gName, tOp, tUn, tVar, tC, tCons, L2.tNil, tRet, tIfS, tTest, tCB, tCall, rI, rI0, rU, tNext, tB, tAnd, tOr, tNot, tAndV, tOrV, tNotV, tDrop, tIf, tPar, gSub, rIxL, rIxT, rEq, rNe, rSetL, tBits,
    L2.start, List.map_cons, List.map_nil, List.cons_append, List.nil_append, List.append_nil, List.length_cons, List.length_nil, List.replicate, Nat.reduceAdd, Nat.reduceSub, Nat.zero_add, List.getElem?_cons_zero, List.getElem?_cons_succ, List.set_cons_zero, List.set_cons_succ,
    Option.some.injEq, exists_eq_left', exists_eq_left, V.int.injEq, V.bl.injEq, V.ref.injEq, V.str.injEq, List.cons.injEq, reduceCtorEq, and_true, true_and, false_and, and_false, exists_false, or_false, false_or, or_true, true_or, exists_const, CMul, CDiv, CPow, and_assoc, exists_and_left, exists_and_right, Int.reducePow, Int.reduceNeg, Int.reduceLT, Int.reduceLE, Nat.reducePow, Nat.reduceLT, Int.reduceToNat, gt_iff_lt, ge_iff_le, decide_eq_true_eq, Bool.not_eq_true', decide_eq_false_iff_not, scal, ↓reduceIte, Bool.false_eq_true]
      exact k H (Same.refl H)
    | bl b =>
      simp only [cx_K, decide_true, decide_false, reduceCtorEq, gTp, gCons, gNil, ca_0, ca_1, ca_2, ca_3, ca_4, ca_5, ca_6, ca_7, ca_8, ca_9, ca_10, ca_11, ca_12, ca_13, ca_14, ca_15, ca_16, ca_17, ca_18, ca_19, ca_20, ca_21, ca_22, ca_23, ca_24, ca_25, ca_26, ca_27, ca_28, ca_29, ca_30, not_true_eq_false, not_false_eq_true, Int.reduceEq, Nat.reduceEqDiff, Nat.reduceLeDiff, rGcd, V.ty.injEq, eq_self, List.not_mem_nil, beq_self_eq_true, HO.lst.injEq, HO.tup.injEq, tFor_eq, iRng1, iList, iTup, nat10, tSeq, rIxA, rSetA, rIsN, rIsT, tTp, tLs, itsO_tup, itsO_lst, tyO_tup, tyO_lst, tyO_dK, tyN_non, tyN_bl, tyN_int, tyN_str, tyN_ref, tyNs_lt, isB, upd_same, upd_upd, sizeLine_eq, List.mem_cons, String.reduceBEq, String.reduceEq, Bool.or_false, Bool.or_true, Bool.and_false, Bool.false_or, Bool.and_self, Bool.false_and, Bool.not_false, Bool.not_true, List.any_cons, List.any_nil, atI_0, setI_0, atI_1, setI_1, atI_2, setI_2, atI_3, setI_3, atI_4, setI_4, atI_5, setI_5, atI_6, setI_6, tAsg, gName, tOp, tUn, tVar, tC, tCons, L2.tNil, tRet, tIfS, tTest, tCB, tCall, rI, rI0, rU, tNext, tB, tAnd, tOr, tNot, tAndV, tOrV, tNotV, tDrop, tIf, tPar, gSub, rIxL, rIxT, rEq, rNe, rSetL, tBits,
    L2.start, List.map_cons, List.map_nil, List.cons_append, List.nil_append, List.append_nil, List.length_cons, List.length_nil, List.replicate, Nat.reduceAdd, Nat.reduceSub, Nat.zero_add, List.getElem?_cons_zero, List.getElem?_cons_succ, List.set_cons_zero, List.set_cons_succ,
    Option.some.injEq, exists_eq_left', exists_eq_left, V.int.injEq, V.bl.injEq, V.ref.injEq, V.str.injEq, List.cons.injEq, reduceCtorEq, and_true, true_and, false_and, and_false, exists_false, or_false, false_or, or_true, true_or, exists_const, CMul, CDiv, CPow, and_assoc, exists_and_left, exists_and_right, Int.reducePow, Int.reduceNeg, Int.reduceLT, Int.reduceLE, Nat.reducePow, Nat.reduceLT, Int.reduceToNat, gt_iff_lt, ge_iff_le, decide_eq_true_eq, Bool.not_eq_true', decide_eq_false_iff_not, scal, ↓reduceIte, Bool.false_eq_true]
      exact k H (Same.refl H)
    | int i =>
      simp only [cx_K, decide_true, decide_false, reduceCtorEq, gTp, gCons, gNil, ca_0, ca_1, ca_2, ca_3, ca_4, ca_5, ca_6, ca_7, ca_8, ca_9, ca_10, ca_11, ca_12, ca_13, ca_14, ca_15, ca_16, ca_17, ca_18, ca_19, ca_20, ca_21, ca_22, ca_23, ca_24, ca_25, ca_26, ca_27, ca_28, ca_29, ca_30, not_true_eq_false, not_false_eq_true, Int.reduceEq, Nat.reduceEqDiff, Nat.reduceLeDiff, rGcd, V.ty.injEq, eq_self, List.not_mem_nil, beq_self_eq_true, HO.lst.injEq, HO.tup.injEq, tFor_eq, iRng1, iList, iTup, nat10, tSeq, rIxA, rSetA, rIsN, rIsT, tTp, tLs, itsO_tup, itsO_lst, tyO_tup, tyO_lst, tyO_dK, tyN_non, tyN_bl, tyN_int, tyN_str, tyN_ref, tyNs_lt, isB, upd_same, upd_upd, sizeLine_eq, List.mem_cons, String.reduceBEq, String.reduceEq, Bool.or_false, Bool.or_true, Bool.and_false, Bool.false_or, Bool.and_self, Bool.false_and, Bool.not_false, Bool.not_true, List.any_cons, List.any_nil, atI_0, setI_0, atI_1, setI_1, atI_2, setI_2, atI_3, setI_3, atI_4, setI_4, atI_5, setI_5, atI_6, setI_6, tAsg, gName, tOp, tUn, tVar, tC, tCons, L2.tNil, tRet, tIfS, tTest, tCB, tCall, rI, rI0, rU, tNext, tB, tAnd, tOr, tNot, tAndV, tOrV, tNotV, tDrop, tIf, tPar, gSub, rIxL, rIxT, rEq, rNe, rSetL, tBits,
    L2.start, List.map_cons, List.map_nil, List.cons_append, List.nil_append, List.append_nil, List.length_cons, List.length_nil, List.replicate, Nat.reduceAdd, Nat.reduceSub, Nat.zero_add, List.getElem?_cons_zero, List.getElem?_cons_succ, List.set_cons_zero, List.set_cons_succ,
    Option.some.injEq, exists_eq_left', exists_eq_left, V.int.injEq, V.bl.injEq, V.ref.injEq, V.str.injEq, List.cons.injEq, reduceCtorEq, and_true, true_and, false_and, and_false, exists_false, or_false, false_or, or_true, true_or, exists_const, CMul, CDiv, CPow, and_assoc, exists_and_left, exists_and_right, Int.reducePow, Int.reduceNeg, Int.reduceLT, Int.reduceLE, Nat.reducePow, Nat.reduceLT, Int.reduceToNat, gt_iff_lt, ge_iff_le, decide_eq_true_eq, Bool.not_eq_true', decide_eq_false_iff_not, scal, ↓reduceIte, Bool.false_eq_true]
      exact ⟨_, rfl, rfl, true, rfl, k H (Same.refl H)⟩
    | str z =>
      simp only [cx_K, decide_true, decide_false, reduceCtorEq, gTp, gCons, gNil, ca_0, ca_1, ca_2, ca_3, ca_4, ca_5, ca_6, ca_7, ca_8, ca_9, ca_10, ca_11, ca_12, ca_13, ca_14, ca_15, ca_16, ca_17, ca_18, ca_19, ca_20, ca_21, ca_22, ca_23, ca_24, ca_25, ca_26, ca_27, ca_28, ca_29, ca_30, not_true_eq_false, not_false_eq_true, Int.reduceEq, Nat.reduceEqDiff, Nat.reduceLeDiff, rGcd, V.ty.injEq, eq_self, List.not_mem_nil, beq_self_eq_true, HO.lst.injEq, HO.tup.injEq, tFor_eq, iRng1, iList, iTup, nat10, tSeq, rIxA, rSetA, rIsN, rIsT, tTp, tLs, itsO_tup, itsO_lst, tyO_tup, tyO_lst, tyO_dK, tyN_non, tyN_bl, tyN_int, tyN_str, tyN_ref, tyNs_lt, isB, upd_same, upd_upd, sizeLine_eq, List.mem_cons, String.reduceBEq, String.reduceEq, Bool.or_false, Bool.or_true, Bool.and_false, Bool.false_or, Bool.and_self, Bool.false_and, Bool.not_false, Bool.not_true, List.any_cons, List.any_nil, atI_0, setI_0, atI_1, setI_1, atI_2, setI_2, atI_3, setI_3, atI_4, setI_4, atI_5, setI_5, atI_6, setI_6, tAsg, gName, tOp, tUn, tVar, tC, tCons, L2.tNil, tRet, tIfS, tTest, tCB, tCall, rI, rI0, rU, tNext, tB, tAnd, tOr, tNot, tAndV, tOrV, tNotV, tDrop, tIf, tPar, gSub, rIxL, rIxT, rEq, rNe, rSetL, tBits,
    L2.start, List.map_cons, List.map_nil, List.cons_append, List.nil_append, List.append_nil, List.length_cons, List.length_nil, List.replicate, Nat.reduceAdd, Nat.reduceSub, Nat.zero_add, List.getElem?_cons_zero, List.getElem?_cons_succ, List.set_cons_zero, List.set_cons_succ,
    Option.some.injEq, exists_eq_left', exists_eq_left, V.int.injEq, V.bl.injEq, V.ref.injEq, V.str.injEq, List.cons.injEq, reduceCtorEq, and_true, true_and, false_and, and_false, exists_false, or_false, false_or, or_true, true_or, exists_const, CMul, CDiv, CPow, and_assoc, exists_and_left, exists_and_right, Int.reducePow, Int.reduceNeg, Int.reduceLT, Int.reduceLE, Nat.reducePow, Nat.reduceLT, Int.reduceToNat, gt_iff_lt, ge_iff_le, decide_eq_true_eq, Bool.not_eq_true', decide_eq_false_iff_not, scal, ↓reduceIte, Bool.false_eq_true]
      exact k H (Same.refl H)
    | _ => cases hsc
  rcases ho with ⟨oa, oc⟩ | ⟨oa, oc⟩
  · simp only [oa, oc, cx_K, decide_true, decide_false, reduceCtorEq, gTp, gCons, gNil, ca_0, ca_1, ca_2, ca_3, ca_4, ca_5, ca_6, ca_7, ca_8, ca_9, ca_10, ca_11, ca_12, ca_13, ca_14, ca_15, ca_16, ca_17, ca_18, ca_19, ca_20, ca_21, ca_22, ca_23, ca_24, ca_25, ca_26, ca_27, ca_28, ca_29, ca_30, not_true_eq_false, not_false_eq_true, Int.reduceEq, Nat.reduceEqDiff, Nat.reduceLeDiff, rGcd, V.ty.injEq, eq_self, List.not_mem_nil, beq_self_eq_true, HO.lst.injEq, HO.tup.injEq, tFor_eq, iRng1, iList, iTup, nat10, tSeq, rIxA, rSetA, rIsN, rIsT, tTp, tLs, itsO_tup, itsO_lst, tyO_tup, tyO_lst, tyO_dK, tyN_non, tyN_bl, tyN_int, tyN_str, tyN_ref, tyNs_lt, isB, upd_same, upd_upd, sizeLine_eq, List.mem_cons, String.reduceBEq, String.reduceEq, Bool.or_false, Bool.or_true, Bool.and_false, Bool.false_or, Bool.and_self, Bool.false_and, Bool.not_false, Bool.not_true, List.any_cons, List.any_nil, atI_0, setI_0, atI_1, setI_1, atI_2, setI_2, atI_3, setI_3, atI_4, setI_4, atI_5, setI_5, atI_6, setI_6, tAsg, gName, tOp, tUn, tVar, tC, tCons, L2.tNil, tRet, tIfS, tTest, tCB, tCall, rI, rI0, rU, tNext, tB, tAnd, tOr, tNot, tAndV, tOrV, tNotV, tDrop, tIf, tPar, gSub, rIxL, rIxT, rEq, rNe, rSetL, tBits,
    L2.start, List.map_cons, List.map_nil, List.cons_append, List.nil_append, List.append_nil, List.length_cons, List.length_nil, List.replicate, Nat.reduceAdd, Nat.reduceSub, Nat.zero_add, List.getElem?_cons_zero, List.getElem?_cons_succ, List.set_cons_zero, List.set_cons_succ,
    Option.some.injEq, exists_eq_left', exists_eq_left, V.int.injEq, V.bl.injEq, V.ref.injEq, V.str.injEq, List.cons.injEq, reduceCtorEq, and_true, true_and, false_and, and_false, exists_false, or_false, false_or, or_true, true_or, exists_const, CMul, CDiv, CPow, and_assoc, exists_and_left, exists_and_right, Int.reducePow, Int.reduceNeg, Int.reduceLT, Int.reduceLE, Nat.reducePow, Nat.reduceLT, Int.reduceToNat, gt_iff_lt, ge_iff_le, decide_eq_true_eq, Bool.not_eq_true', decide_eq_false_iff_not, scal, ↓reduceIte, Bool.false_eq_true]
    intro p hp kp
    have s1 := Same.new hp (.tup [V.ty "list", V.ty "tuple"])
    generalize upd H p (.tup [V.ty "list", V.ty "tuple"]) = H1 at s1 ⊢
    have oa1 := ob_same s1 oa
    have oc1 := ob_same s1 oc
    simp only [oa1, oc1, cx_K, decide_true, decide_false, reduceCtorEq, gTp, gCons, gNil, ca_0, ca_1, ca_2, ca_3, ca_4, ca_5, ca_6, ca_7, ca_8, ca_9, ca_10, ca_11, ca_12, ca_13, ca_14, ca_15, ca_16, ca_17, ca_18, ca_19, ca_20, ca_21, ca_22, ca_23, ca_24, ca_25, ca_26, ca_27, ca_28, ca_29, ca_30, not_true_eq_false, not_false_eq_true, Int.reduceEq, Nat.reduceEqDiff, Nat.reduceLeDiff, rGcd, V.ty.injEq, eq_self, List.not_mem_nil, beq_self_eq_true, HO.lst.injEq, HO.tup.injEq, tFor_eq, iRng1, iList, iTup, nat10, tSeq, rIxA, rSetA, rIsN, rIsT, tTp, tLs, itsO_tup, itsO_lst, tyO_tup, tyO_lst, tyO_dK, tyN_non, tyN_bl, tyN_int, tyN_str, tyN_ref, tyNs_lt, isB, upd_same, upd_upd, sizeLine_eq, List.mem_cons, String.reduceBEq, String.reduceEq, Bool.or_false, Bool.or_true, Bool.and_false, Bool.false_or, Bool.and_self, Bool.false_and, Bool.not_false, Bool.not_true, List.any_cons, List.any_nil, atI_0, setI_0, atI_1, setI_1, atI_2, setI_2, atI_3, setI_3, atI_4, setI_4, atI_5, setI_5, atI_6, setI_6, tAsg, gName, tOp, tUn, tVar, tC, tCons, L2.tNil, tRet, tIfS, tTest, tCB, tCall, rI, rI0, rU, tNext, tB, tAnd, tOr, tNot, tAndV, tOrV, tNotV, tDrop, tIf, tPar, gSub, rIxL, rIxT, rEq, rNe, rSetL, tBits,
    L2.start, List.map_cons, List.map_nil, List.cons_append, List.nil_append, List.append_nil, List.length_cons, List.length_nil, List.replicate, Nat.reduceAdd, Nat.reduceSub, Nat.zero_add, List.getElem?_cons_zero, List.getElem?_cons_succ, List.set_cons_zero, List.set_cons_succ,
    Option.some.injEq, exists_eq_left', exists_eq_left, V.int.injEq, V.bl.injEq, V.ref.injEq, V.str.injEq, List.cons.injEq, reduceCtorEq, and_true, true_and, false_and, and_false, exists_false, or_false, false_or, or_true, true_or, exists_const, CMul, CDiv, CPow, and_assoc, exists_and_left, exists_and_right, Int.reducePow, Int.reduceNeg, Int.reduceLT, Int.reduceLE, Nat.reducePow, Nat.reduceLT, Int.reduceToNat, gt_iff_lt, ge_iff_le, decide_eq_true_eq, Bool.not_eq_true', decide_eq_false_iff_not, scal, ↓reduceIte, Bool.false_eq_true]
    rw [if_neg (show ¬ ¬ ((xs.length : Int) = (ys.length : Int)) by omega)]
    refine ⟨by omega, by omega, forI_range (SameI H a b) ⟨none, rfl, s1⟩ ?_ ?_⟩
    · rintro i σ H' hlt ⟨z, rfl, s2⟩
      have hx : i < xs.length := by omega
      have hy : i < ys.length := by omega
      have oa2 := ob_same s2 oa
      have oc2 := ob_same s2 oc
      have ex : atI xs (0 + (i : Int)) = some xs[i] := by rw [Int.zero_add]; exact atI_nat (List.getElem?_eq_getElem hx)
      have ey : atI ys (0 + (i : Int)) = some ys[i] := by rw [Int.zero_add]; exact atI_nat (List.getElem?_eq_getElem hy)
      simp only [oa2, oc2, ex, ey, cx_K, decide_true, decide_false, reduceCtorEq, gTp, gCons, gNil, ca_0, ca_1, ca_2, ca_3, ca_4, ca_5, ca_6, ca_7, ca_8, ca_9, ca_10, ca_11, ca_12, ca_13, ca_14, ca_15, ca_16, ca_17, ca_18, ca_19, ca_20, ca_21, ca_22, ca_23, ca_24, ca_25, ca_26, ca_27, ca_28, ca_29, ca_30, not_true_eq_false, not_false_eq_true, Int.reduceEq, Nat.reduceEqDiff, Nat.reduceLeDiff, rGcd, V.ty.injEq, eq_self, List.not_mem_nil, beq_self_eq_true, HO.lst.injEq, HO.tup.injEq, tFor_eq, iRng1, iList, iTup, nat10, tSeq, rIxA, rSetA, rIsN, rIsT, tTp, tLs, itsO_tup, itsO_lst, tyO_tup, tyO_lst, tyO_dK, tyN_non, tyN_bl, tyN_int, tyN_str, tyN_ref, tyNs_lt, isB, upd_same, upd_upd, sizeLine_eq, List.mem_cons, String.reduceBEq, String.reduceEq, Bool.or_false, Bool.or_true, Bool.and_false, Bool.false_or, Bool.and_self, Bool.false_and, Bool.not_false, Bool.not_true, List.any_cons, List.any_nil, atI_0, setI_0, atI_1, setI_1, atI_2, setI_2, atI_3, setI_3, atI_4, setI_4, atI_5, setI_5, atI_6, setI_6, tAsg, gName, tOp, tUn, tVar, tC, tCons, L2.tNil, tRet, tIfS, tTest, tCB, tCall, rI, rI0, rU, tNext, tB, tAnd, tOr, tNot, tAndV, tOrV, tNotV, tDrop, tIf, tPar, gSub, rIxL, rIxT, rEq, rNe, rSetL, tBits,
    L2.start, List.map_cons, List.map_nil, List.cons_append, List.nil_append, List.append_nil, List.length_cons, List.length_nil, List.replicate, Nat.reduceAdd, Nat.reduceSub, Nat.zero_add, List.getElem?_cons_zero, List.getElem?_cons_succ, List.set_cons_zero, List.set_cons_succ,
    Option.some.injEq, exists_eq_left', exists_eq_left, V.int.injEq, V.bl.injEq, V.ref.injEq, V.str.injEq, List.cons.injEq, reduceCtorEq, and_true, true_and, false_and, and_false, exists_false, or_false, false_or, or_true, true_or, exists_const, CMul, CDiv, CPow, and_assoc, exists_and_left, exists_and_right, Int.reducePow, Int.reduceNeg, Int.reduceLT, Int.reduceLE, Nat.reducePow, Nat.reduceLT, Int.reduceToNat, gt_iff_lt, ge_iff_le, decide_eq_true_eq, Bool.not_eq_true', decide_eq_false_iff_not, scal, ↓reduceIte, Bool.false_eq_true]
      refine ⟨_, _, rfl, (hi i _ _ (List.getElem?_eq_getElem hx) (List.getElem?_eq_getElem hy)).same s2, fun H2 s3 => ⟨true, rfl, ?_⟩⟩
      rw [if_neg Bool.noConfusion]
      exact ⟨_, rfl, s2.trans s3⟩
    · rintro σ H' ⟨z, rfl, s2⟩
      simp only [cx_K, decide_true, decide_false, reduceCtorEq, gTp, gCons, gNil, ca_0, ca_1, ca_2, ca_3, ca_4, ca_5, ca_6, ca_7, ca_8, ca_9, ca_10, ca_11, ca_12, ca_13, ca_14, ca_15, ca_16, ca_17, ca_18, ca_19, ca_20, ca_21, ca_22, ca_23, ca_24, ca_25, ca_26, ca_27, ca_28, ca_29, ca_30, not_true_eq_false, not_false_eq_true, Int.reduceEq, Nat.reduceEqDiff, Nat.reduceLeDiff, rGcd, V.ty.injEq, eq_self, List.not_mem_nil, beq_self_eq_true, HO.lst.injEq, HO.tup.injEq, tFor_eq, iRng1, iList, iTup, nat10, tSeq, rIxA, rSetA, rIsN, rIsT, tTp, tLs, itsO_tup, itsO_lst, tyO_tup, tyO_lst, tyO_dK, tyN_non, tyN_bl, tyN_int, tyN_str, tyN_ref, tyNs_lt, isB, upd_same, upd_upd, sizeLine_eq, List.mem_cons, String.reduceBEq, String.reduceEq, Bool.or_false, Bool.or_true, Bool.and_false, Bool.false_or, Bool.and_self, Bool.false_and, Bool.not_false, Bool.not_true, List.any_cons, List.any_nil, atI_0, setI_0, atI_1, setI_1, atI_2, setI_2, atI_3, setI_3, atI_4, setI_4, atI_5, setI_5, atI_6, setI_6, tAsg, gName, tOp, tUn, tVar, tC, tCons, L2.tNil, tRet, tIfS, tTest, tCB, tCall, rI, rI0, rU, tNext, tB, tAnd, tOr, tNot, tAndV, tOrV, tNotV, tDrop, tIf, tPar, gSub, rIxL, rIxT, rEq, rNe, rSetL, tBits,
    L2.start, List.map_cons, List.map_nil, List.cons_append, List.nil_append, List.append_nil, List.length_cons, List.length_nil, List.replicate, Nat.reduceAdd, Nat.reduceSub, Nat.zero_add, List.getElem?_cons_zero, List.getElem?_cons_succ, List.set_cons_zero, List.set_cons_succ,
    Option.some.injEq, exists_eq_left', exists_eq_left, V.int.injEq, V.bl.injEq, V.ref.injEq, V.str.injEq, List.cons.injEq, reduceCtorEq, and_true, true_and, false_and, and_false, exists_false, or_false, false_or, or_true, true_or, exists_const, CMul, CDiv, CPow, and_assoc, exists_and_left, exists_and_right, Int.reducePow, Int.reduceNeg, Int.reduceLT, Int.reduceLE, Nat.reducePow, Nat.reduceLT, Int.reduceToNat, gt_iff_lt, ge_iff_le, decide_eq_true_eq, Bool.not_eq_true', decide_eq_false_iff_not, scal, ↓reduceIte, Bool.false_eq_true]
      exact k H' s2
  · simp only [oa, oc, cx_K, decide_true, decide_false, reduceCtorEq, gTp, gCons, gNil, ca_0, ca_1, ca_2, ca_3, ca_4, ca_5, ca_6, ca_7, ca_8, ca_9, ca_10, ca_11, ca_12, ca_13, ca_14, ca_15, ca_16, ca_17, ca_18, ca_19, ca_20, ca_21, ca_22, ca_23, ca_24, ca_25, ca_26, ca_27, ca_28, ca_29, ca_30, not_true_eq_false, not_false_eq_true, Int.reduceEq, Nat.reduceEqDiff, Nat.reduceLeDiff, rGcd, V.ty.injEq, eq_self, List.not_mem_nil, beq_self_eq_true, HO.lst.injEq, HO.tup.injEq, tFor_eq, iRng1, iList, iTup, nat10, tSeq, rIxA, rSetA, rIsN, rIsT, tTp, tLs, itsO_tup, itsO_lst, tyO_tup, tyO_lst, tyO_dK, tyN_non, tyN_bl, tyN_int, tyN_str, tyN_ref, tyNs_lt, isB, upd_same, upd_upd, sizeLine_eq, List.mem_cons, String.reduceBEq, String.reduceEq, Bool.or_false, Bool.or_true, Bool.and_false, Bool.false_or, Bool.and_self, Bool.false_and, Bool.not_false, Bool.not_true, List.any_cons, List.any_nil, atI_0, setI_0, atI_1, setI_1, atI_2, setI_2, atI_3, setI_3, atI_4, setI_4, atI_5, setI_5, atI_6, setI_6, tAsg, gName, tOp, tUn, tVar, tC, tCons, L2.tNil, tRet, tIfS, tTest, tCB, tCall, rI, rI0, rU, tNext, tB, tAnd, tOr, tNot, tAndV, tOrV, tNotV, tDrop, tIf, tPar, gSub, rIxL, rIxT, rEq, rNe, rSetL, tBits,
    L2.start, List.map_cons, List.map_nil, List.cons_append, List.nil_append, List.append_nil, List.length_cons, List.length_nil, List.replicate, Nat.reduceAdd, Nat.reduceSub, Nat.zero_add, List.getElem?_cons_zero, List.getElem?_cons_succ, List.set_cons_zero, List.set_cons_succ,
    Option.some.injEq, exists_eq_left', exists_eq_left, V.int.injEq, V.bl.injEq, V.ref.injEq, V.str.injEq, List.cons.injEq, reduceCtorEq, and_true, true_and, false_and, and_false, exists_false, or_false, false_or, or_true, true_or, exists_const, CMul, CDiv, CPow, and_assoc, exists_and_left, exists_and_right, Int.reducePow, Int.reduceNeg, Int.reduceLT, Int.reduceLE, Nat.reducePow, Nat.reduceLT, Int.reduceToNat, gt_iff_lt, ge_iff_le, decide_eq_true_eq, Bool.not_eq_true', decide_eq_false_iff_not, scal, ↓reduceIte, Bool.false_eq_true]
    intro p hp kp
    have s1 := Same.new hp (.tup [V.ty "list", V.ty "tuple"])
    generalize upd H p (.tup [V.ty "list", V.ty "tuple"]) = H1 at s1 ⊢
    have oa1 := ob_same s1 oa
    have oc1 := ob_same s1 oc
    simp only [oa1, oc1, cx_K, decide_true, decide_false, reduceCtorEq, gTp, gCons, gNil, ca_0, ca_1, ca_2, ca_3, ca_4, ca_5, ca_6, ca_7, ca_8, ca_9, ca_10, ca_11, ca_12, ca_13, ca_14, ca_15, ca_16, ca_17, ca_18, ca_19, ca_20, ca_21, ca_22, ca_23, ca_24, ca_25, ca_26, ca_27, ca_28, ca_29, ca_30, not_true_eq_false, not_false_eq_true, Int.reduceEq, Nat.reduceEqDiff, Nat.reduceLeDiff, rGcd, V.ty.injEq, eq_self, List.not_mem_nil, beq_self_eq_true, HO.lst.injEq, HO.tup.injEq, tFor_eq, iRng1, iList, iTup, nat10, tSeq, rIxA, rSetA, rIsN, rIsT, tTp, tLs, itsO_tup, itsO_lst, tyO_tup, tyO_lst, tyO_dK, tyN_non, tyN_bl, tyN_int, tyN_str, tyN_ref, tyNs_lt, isB, upd_same, upd_upd, sizeLine_eq, List.mem_cons, String.reduceBEq, String.reduceEq, Bool.or_false, Bool.or_true, Bool.and_false, Bool.false_or, Bool.and_self, Bool.false_and, Bool.not_false, Bool.not_true, List.any_cons, List.any_nil, atI_0, setI_0, atI_1, setI_1, atI_2, setI_2, atI_3, setI_3, atI_4, setI_4, atI_5, setI_5, atI_6, setI_6, tAsg, gName, tOp, tUn, tVar, tC, tCons, L2.tNil, tRet, tIfS, tTest, tCB, tCall, rI, rI0, rU, tNext, tB, tAnd, tOr, tNot, tAndV, tOrV, tNotV, tDrop, tIf, tPar, gSub, rIxL, rIxT, rEq, rNe, rSetL, tBits,
    L2.start, List.map_cons, List.map_nil, List.cons_append, List.nil_append, List.append_nil, List.length_cons, List.length_nil, List.replicate, Nat.reduceAdd, Nat.reduceSub, Nat.zero_add, List.getElem?_cons_zero, List.getElem?_cons_succ, List.set_cons_zero, List.set_cons_succ,
    Option.some.injEq, exists_eq_left', exists_eq_left, V.int.injEq, V.bl.injEq, V.ref.injEq, V.str.injEq, List.cons.injEq, reduceCtorEq, and_true, true_and, false_and, and_false, exists_false, or_false, false_or, or_true, true_or, exists_const, CMul, CDiv, CPow, and_assoc, exists_and_left, exists_and_right, Int.reducePow, Int.reduceNeg, Int.reduceLT, Int.reduceLE, Nat.reducePow, Nat.reduceLT, Int.reduceToNat, gt_iff_lt, ge_iff_le, decide_eq_true_eq, Bool.not_eq_true', decide_eq_false_iff_not, scal, ↓reduceIte, Bool.false_eq_true]
    rw [if_neg (show ¬ ¬ ((xs.length : Int) = (ys.length : Int)) by omega)]
    refine ⟨by omega, by omega, forI_range (SameI H a b) ⟨none, rfl, s1⟩ ?_ ?_⟩
    · rintro i σ H' hlt ⟨z, rfl, s2⟩
      have hx : i < xs.length := by omega
      have hy : i < ys.length := by omega
      have oa2 := ob_same s2 oa
      have oc2 := ob_same s2 oc
      have ex : atI xs (0 + (i : Int)) = some xs[i] := by rw [Int.zero_add]; exact atI_nat (List.getElem?_eq_getElem hx)
      have ey : atI ys (0 + (i : Int)) = some ys[i] := by rw [Int.zero_add]; exact atI_nat (List.getElem?_eq_getElem hy)
      simp only [oa2, oc2, ex, ey, cx_K, decide_true, decide_false, reduceCtorEq, gTp, gCons, gNil, ca_0, ca_1, ca_2, ca_3, ca_4, ca_5, ca_6, ca_7, ca_8, ca_9, ca_10, ca_11, ca_12, ca_13, ca_14, ca_15, ca_16, ca_17, ca_18, ca_19, ca_20, ca_21, ca_22, ca_23, ca_24, ca_25, ca_26, ca_27, ca_28, ca_29, ca_30, not_true_eq_false, not_false_eq_true, Int.reduceEq, Nat.reduceEqDiff, Nat.reduceLeDiff, rGcd, V.ty.injEq, eq_self, List.not_mem_nil, beq_self_eq_true, HO.lst.injEq, HO.tup.injEq, tFor_eq, iRng1, iList, iTup, nat10, tSeq, rIxA, rSetA, rIsN, rIsT, tTp, tLs, itsO_tup, itsO_lst, tyO_tup, tyO_lst, tyO_dK, tyN_non, tyN_bl, tyN_int, tyN_str, tyN_ref, tyNs_lt, isB, upd_same, upd_upd, sizeLine_eq, List.mem_cons, String.reduceBEq, String.reduceEq, Bool.or_false, Bool.or_true, Bool.and_false, Bool.false_or, Bool.and_self, Bool.false_and, Bool.not_false, Bool.not_true, List.any_cons, List.any_nil, atI_0, setI_0, atI_1, setI_1, atI_2, setI_2, atI_3, setI_3, atI_4, setI_4, atI_5, setI_5, atI_6, setI_6, tAsg, gName, tOp, tUn, tVar, tC, tCons, L2.tNil, tRet, tIfS, tTest, tCB, tCall, rI, rI0, rU, tNext, tB, tAnd, tOr, tNot, tAndV, tOrV, tNotV, tDrop, tIf, tPar, gSub, rIxL, rIxT, rEq, rNe, rSetL, tBits,
    L2.start, List.map_cons, List.map_nil, List.cons_append, List.nil_append, List.append_nil, List.length_cons, List.length_nil, List.replicate, Nat.reduceAdd, Nat.reduceSub, Nat.zero_add, List.getElem?_cons_zero, List.getElem?_cons_succ, List.set_cons_zero, List.set_cons_succ,
    Option.some.injEq, exists_eq_left', exists_eq_left, V.int.injEq, V.bl.injEq, V.ref.injEq, V.str.injEq, List.cons.injEq, reduceCtorEq, and_true, true_and, false_and, and_false, exists_false, or_false, false_or, or_true, true_or, exists_const, CMul, CDiv, CPow, and_assoc, exists_and_left, exists_and_right, Int.reducePow, Int.reduceNeg, Int.reduceLT, Int.reduceLE, Nat.reducePow, Nat.reduceLT, Int.reduceToNat, gt_iff_lt, ge_iff_le, decide_eq_true_eq, Bool.not_eq_true', decide_eq_false_iff_not, scal, ↓reduceIte, Bool.false_eq_true]
      refine ⟨_, _, rfl, (hi i _ _ (List.getElem?_eq_getElem hx) (List.getElem?_eq_getElem hy)).same s2, fun H2 s3 => ⟨true, rfl, ?_⟩⟩
      rw [if_neg Bool.noConfusion]
      exact ⟨_, rfl, s2.trans s3⟩
    · rintro σ H' ⟨z, rfl, s2⟩
      simp only [cx_K, decide_true, decide_false, reduceCtorEq, gTp, gCons, gNil, ca_0, ca_1, ca_2, ca_3, ca_4, ca_5, ca_6, ca_7, ca_8, ca_9, ca_10, ca_11, ca_12, ca_13, ca_14, ca_15, ca_16, ca_17, ca_18, ca_19, ca_20, ca_21, ca_22, ca_23, ca_24, ca_25, ca_26, ca_27, ca_28, ca_29, ca_30, not_true_eq_false, not_false_eq_true, Int.reduceEq, Nat.reduceEqDiff, Nat.reduceLeDiff, rGcd, V.ty.injEq, eq_self, List.not_mem_nil, beq_self_eq_true, HO.lst.injEq, HO.tup.injEq, tFor_eq, iRng1, iList, iTup, nat10, tSeq, rIxA, rSetA, rIsN, rIsT, tTp, tLs, itsO_tup, itsO_lst, tyO_tup, tyO_lst, tyO_dK, tyN_non, tyN_bl, tyN_int, tyN_str, tyN_ref, tyNs_lt, isB, upd_same, upd_upd, sizeLine_eq, List.mem_cons, String.reduceBEq, String.reduceEq, Bool.or_false, Bool.or_true, Bool.and_false, Bool.false_or, Bool.and_self, Bool.false_and, Bool.not_false, Bool.not_true, List.any_cons, List.any_nil, atI_0, setI_0, atI_1, setI_1, atI_2, setI_2, atI_3, setI_3, atI_4, setI_4, atI_5, setI_5, atI_6, setI_6, tAsg, gName, tOp, tUn, tVar, tC, tCons, L2.tNil, tRet, tIfS, tTest, tCB, tCall, rI, rI0, rU, tNext, tB, tAnd, tOr, tNot, tAndV, tOrV, tNotV, tDrop, tIf, tPar, gSub, rIxL, rIxT, rEq, rNe, rSetL, tBits,
    L2.start, List.map_cons, List.map_nil, List.cons_append, List.nil_append, List.append_nil, List.length_cons, List.length_nil, List.replicate, Nat.reduceAdd, Nat.reduceSub, Nat.zero_add, List.getElem?_cons_zero, List.getElem?_cons_succ, List.set_cons_zero, List.set_cons_succ,
    Option.some.injEq, exists_eq_left', exists_eq_left, V.int.injEq, V.bl.injEq, V.ref.injEq, V.str.injEq, List.cons.injEq, reduceCtorEq, and_true, true_and, false_and, and_false, exists_false, or_false, false_or, or_true, true_or, exists_const, CMul, CDiv, CPow, and_assoc, exists_and_left, exists_and_right, Int.reducePow, Int.reduceNeg, Int.reduceLT, Int.reduceLE, Nat.reducePow, Nat.reduceLT, Int.reduceToNat, gt_iff_lt, ge_iff_le, decide_eq_true_eq, Bool.not_eq_true', decide_eq_false_iff_not, scal, ↓reduceIte, Bool.false_eq_true]
      exact k H' s2
theorem k_same (T : Bt K mg) (D : Dfn K mg "_law_same" sSame ["_law_told", "_law_due"]) (d : Kn P w K mg base 1 "_law_is_whole" ["_law_told"] (spWhole K)) : ∀ n : Nat, Kn P w K mg base (n + 1) "_law_same" ["_law_told", "_law_due"] (spSame K n)
  | 0 => by
    obtain ⟨f, fd, m, kp, b, G⟩ := (Kn.none (P := P) (w := w) (base := base) D).ex
    exact ⟨f, fd, m, kp, b, (G.mono (Nat.zero_le _)).imp fun vs H Q E h => h.elim⟩
  | n + 1 => k_Same n T D d (k_same T D d n)
end
end My

namespace My
open PySem PySem.Spec PyProof.Rows L2
section
variable {P : Program} {w : World} {K : PySem.W.Frag} {mg : Str → Option Value} {base : Heap}
/-! ### what is no fraction -/
def fr2 : List V → Bool
  | [.int n, .int d] => decide (1 ≤ d) && decide (Int.gcd n d = 1)
  | _ => false
theorem frOk_tup {H : Hp} {a : Addr} {xs : List V} (o : ob K H a = some (.tup xs)) : frOk K H (.ref a) = fr2 xs := by
  simp only [frOk, o]
  unfold fr2
  split <;> simp_all
theorem tyN_same {H H' : Hp} {v : V} {t : String} (e : Same H H') (h : tyN K H v = some t) : tyN K H' v = some t := by
  cases v with
  | ref a =>
    have h1 : tyO (ob K H a) = some t := h
    show tyO (ob K H' a) = some t
    cases hz : ob K H a with
    | none => rw [hz] at h1; cases h1
    | some z => rw [ob_same e hz, ← hz]; exact h1
  | _ => exact h
theorem tyS_same {H H' : Hp} {v : V} (e : Same H H') (h : (tyN K H v).isSome) : (tyN K H' v).isSome := by
  obtain ⟨t, ht⟩ := Option.isSome_iff_exists.mp h
  rw [tyN_same e ht]
  rfl
theorem ob_back {H H' : Hp} {a : Addr} {z : HO} (e : Same H H') (h : (tyN K H (.ref a)).isSome) (o : ob K H' a = some z) : ob K H a = some z := by
  cases hz : ob K H a with
  | none =>
    rw [tyN_ref, hz] at h
    cases h
  | some y =>
    rw [← o, ob_same e hz]
structure Gd (K : PySem.W.Frag) (H : Hp) (v : V) : Prop where
  ty : Tyd K H v
  no : frOk K H v = false
theorem Gd.same {H H' : Hp} {v : V} (e : Same H H') (h : Gd K H v) : Gd K H' v := by
  refine ⟨⟨tyS_same e h.ty.1, fun a xs ev o x hx => ?_⟩, ?_⟩
  · subst ev
    exact tyS_same e (h.ty.2 a xs rfl (ob_back e h.ty.1 o) x hx)
  · cases v with
    | ref a =>
      cases hz : ob K H a with
      | none =>
        have := h.ty.1
        rw [tyN_ref, hz] at this
        cases this
      | some z =>
        have e2 : frOk K H' (.ref a) = frOk K H (.ref a) := by simp only [frOk, hz, ob_same e hz]
        rw [e2]
        exact h.no
    | _ => rfl
theorem gd_sc {H : Hp} {v : V} (h : scv v = true) : Gd K H v := by
  refine ⟨⟨?_, fun a xs e => ?_⟩, ?_⟩
  · cases v <;> first | rfl | cases h
  · subst e; cases h
  · cases v <;> first | rfl | cases h
theorem gd_tup {H : Hp} {a : Addr} {xs : List V} (o : ob K H a = some (.tup xs)) (hx : ∀ x ∈ xs, (tyN K H x).isSome) (f : fr2 xs = false) : Gd K H (.ref a) := by
  refine ⟨⟨by rw [tyN_ref, o]; rfl, fun b ys e o' => ?_⟩, by rw [frOk_tup o]; exact f⟩
  cases e
  rw [o] at o'
  cases o'
  exact hx
theorem gd_lst {H : Hp} {a : Addr} {xs : List V} (o : ob K H a = some (.lst xs)) : Gd K H (.ref a) := by
  refine ⟨⟨by rw [tyN_ref, o]; rfl, fun b ys e o' => ?_⟩, by simp only [frOk, o]⟩
  cases e
  rw [o] at o'
  cases o'
theorem gd_dict {H : Hp} {a : Addr} {xs : List (Key × V)} (o : ob K H a = some (.dK xs)) : Gd K H (.ref a) := by
  refine ⟨⟨by rw [tyN_ref, o]; rfl, fun b ys e o' => ?_⟩, by simp only [frOk, o]⟩
  cases e
  rw [o] at o'
  cases o'
/-! ### displays that only make -/
def Mk (R : Hp → V → Prop) (te : TE) : Prop := ∀ σ H Q, (∀ v H', Same H H' → R H' v → Q v H') → te σ H Q
def MkL (R : Hp → V → Prop) (n : Nat) (ta : TA) : Prop := ∀ σ H Q, (∀ vs H', Same H H' → vs.length = n → (∀ v ∈ vs, R H' v) → Q vs H') → ta σ H Q
theorem mkL_nil {R : Hp → V → Prop} : MkL R 0 L2.tNil := fun σ H Q k => k [] H (Same.refl H) rfl fun _ z => absurd z (by simp)
theorem mkL_cons {R : Hp → V → Prop} {n : Nat} {te : TE} {ta : TA} (mono : ∀ (H H' : Hp) (v : V), Same H H' → R H v → R H' v) (h1 : Mk R te) (h2 : MkL R n ta) : MkL R (n + 1) (tCons te ta) := fun σ H Q k =>
  h1 σ H _ fun v H1 s1 r1 => h2 σ H1 _ fun vs H2 s2 hn hr => k (v :: vs) H2 (s1.trans s2) (by rw [List.length_cons, hn]) fun x hx => by
    rcases List.mem_cons.mp hx with e | e
    · subst e; exact mono _ _ _ s2 r1
    · exact hr x e
theorem mk_c {v : V} (h : scv v = true) : Mk (Gd K) (tC v) := fun σ H Q k => k v H (Same.refl H) (gd_sc h)
theorem mk_tc {ta : TA} (xs : List V) (e : ∀ σ H Q, Q xs H → ta σ H Q) (hs : xs.all scv = true) (hf : fr2 xs = false) (hl : xs.length ≤ 100 := by decide) : Mk (Gd K) (tTp K ta) := fun σ H Q k => by
  refine e σ H _ ⟨by rw [sizeLine_eq]; omega, fun p hp kp => k _ _ (Same.new hp _) (gd_tup (ob_new kp) (fun x hx => ?_) hf)⟩
  exact (gd_sc (K := K) (H := upd H p (.tup xs)) (List.all_eq_true.mp hs x hx)).ty.1
theorem mk_ls {ta : TA} {n : Nat} {R : Hp → V → Prop} (h : MkL R n ta) (hl : n ≤ 100 := by decide) : Mk (Gd K) (tLs K ta) := fun σ H Q k =>
  h σ H _ fun vs H1 s1 hn _ => ⟨by rw [sizeLine_eq]; omega, fun p hp kp => k _ _ (s1.trans (Same.new hp _)) (gd_lst (ob_new kp))⟩
theorem mk_dn : Mk (Gd K) (tDn K) := fun σ H Q k p hp kp => k _ _ (Same.new hp _) (gd_dict (ob_new kp))
theorem mk_any {R : Hp → V → Prop} {te : TE} (h : Mk R te) : Mk (fun _ _ => True) te := fun σ H Q k => h σ H Q fun v H' s _ => k v H' s True.intro
theorem mk_tup {ta : TA} {n : Nat} {R : Hp → V → Prop} (h : MkL R n ta) (hl : n ≤ 100 := by decide) : Mk (fun _ _ => True) (tTp K ta) := fun σ H Q k =>
  h σ H _ fun vs H1 s1 hn _ => ⟨by rw [sizeLine_eq]; omega, fun p hp kp => k _ _ (s1.trans (Same.new hp _)) True.intro⟩
/-! the same where names are read -/
def MkA (σ : L2.St) (H0 : Hp) (R : Hp → V → Prop) (te : TE) : Prop := ∀ H, Same H0 H → ∀ Q, (∀ v H', Same H H' → R H' v → Q v H') → te σ H Q
def MkAL (σ : L2.St) (H0 : Hp) (R : Hp → V → Prop) (n : Nat) (ta : TA) : Prop := ∀ H, Same H0 H → ∀ Q, (∀ vs H', Same H H' → vs.length = n → (∀ v ∈ vs, R H' v) → Q vs H') → ta σ H Q
theorem mkA_nil {σ : L2.St} {H0 : Hp} {R : Hp → V → Prop} : MkAL σ H0 R 0 L2.tNil := fun H _ Q k => k [] H (Same.refl H) rfl fun _ z => absurd z (by simp)
theorem mkA_cons {σ : L2.St} {H0 : Hp} {R : Hp → V → Prop} {n : Nat} {te : TE} {ta : TA} (mono : ∀ (H H' : Hp) (v : V), Same H H' → R H v → R H' v) (h1 : MkA σ H0 R te) (h2 : MkAL σ H0 R n ta) : MkAL σ H0 R (n + 1) (tCons te ta) := fun H s Q k =>
  h1 H s _ fun v H1 s1 r1 => h2 H1 (s.trans s1) _ fun vs H2 s2 hn hr => k (v :: vs) H2 (s1.trans s2) (by rw [List.length_cons, hn]) fun x hx => by
    rcases List.mem_cons.mp hx with e | e
    · subst e; exact mono _ _ _ s2 r1
    · exact hr x e
theorem mkA_tc {σ : L2.St} {H0 : Hp} {ta : TA} (xs : List V) (e : ∀ H, Same H0 H → ∀ Q, Q xs H → ta σ H Q) (hs : ∀ x ∈ xs, (tyN K H0 x).isSome) (hf : fr2 xs = false) (hl : xs.length ≤ 100) : MkA σ H0 (Gd K) (tTp K ta) := fun H s Q k => by
  refine e H s _ ⟨by rw [sizeLine_eq]; omega, fun p hp kp => k _ _ (Same.new hp _) (gd_tup (ob_new kp) (fun x hx => ?_) hf)⟩
  exact tyS_same (s.trans (Same.new hp _)) (hs x hx)
theorem mkA_lc {σ : L2.St} {H0 : Hp} {ta : TA} (xs : List V) (e : ∀ H, Same H0 H → ∀ Q, Q xs H → ta σ H Q) (hl : xs.length ≤ 100) : MkA σ H0 (Gd K) (tLs K ta) := fun H s Q k => by
  exact e H s _ ⟨by rw [sizeLine_eq]; omega, fun p hp kp => k _ _ (Same.new hp _) (gd_lst (ob_new kp))⟩
theorem lsA {ta : TA} {n : Nat} {R : Hp → V → Prop} {σ : L2.St} {H : Hp} {Q : VK} (mono : ∀ (H H' : Hp) (v : V), Same H H' → R H v → R H' v) (h : MkAL σ H R n ta) (hl : n ≤ 100)
    (k : ∀ vs p H', Same H H' → H p = none → K.lookup p = none → vs.length = n → (∀ v ∈ vs, R H' v) → H' p = some (.lst vs) → Q (.ref p) H') : tLs K ta σ H Q :=
  h H (Same.refl H) _ fun vs H1 s1 hn hr => ⟨by rw [sizeLine_eq]; omega, fun p hp kp => k vs p _ (s1.trans (Same.new hp _)) (s1.free hp) kp hn (fun v hv => mono _ _ _ (Same.new hp _) (hr v hv)) upd_same⟩
/-! what is no fraction stays so while the draws go on -/
theorem ob_kp2 {H H' : Hp} {s a : Addr} {z : HO} (e : Kp s H H') (n : a ≠ s) (h : ob K H a = some z) : ob K H' a = some z := by
  unfold ob at h ⊢
  split
  · rename_i o q
    rw [q] at h
    exact h
  · rename_i q
    rw [q] at h
    exact e _ _ n h
theorem Sto.ob {H : Hp} {s : Addr} (h : Sto K H s) : ∃ ys, My.ob K H s = some (.lst ys) := by
  obtain ⟨sc, ns, i, b, c, d, e, f, h⟩ := h
  exact ⟨_, (ob_none h.2.2.2.2.1).trans h.1⟩
theorem tyS_kp {H H' : Hp} {s : Addr} {v : V} (e : Kp s H H') (t : Sto K H' s) (h : (tyN K H v).isSome) : (tyN K H' v).isSome := by
  cases v with
  | ref a =>
    by_cases ha : a = s
    · subst ha
      obtain ⟨ys, hy⟩ := t.ob
      rw [tyN_ref, hy]
      rfl
    · cases hz : ob K H a with
      | none => rw [tyN_ref, hz] at h; cases h
      | some z =>
        rw [tyN_ref, ob_kp2 e ha hz, ← hz]
        exact h
  | _ => exact h
theorem Gd.kp {H H' : Hp} {s : Addr} {v : V} (e : Kp s H H') (t : Sto K H' s) (h : Gd K H v) : Gd K H' v := by
  cases v with
  | ref a =>
    by_cases ha : a = s
    · subst ha
      obtain ⟨ys, hy⟩ := t.ob
      exact gd_lst hy
    · cases hz : ob K H a with
      | none =>
        have := h.ty.1
        rw [tyN_ref, hz] at this
        cases this
      | some z =>
        have hz' := ob_kp2 e ha hz
        refine ⟨⟨tyS_kp e t h.ty.1, fun b xs ev o x hx => ?_⟩, ?_⟩
        · cases ev
          rw [hz'] at o
          exact tyS_kp e t (h.ty.2 a xs rfl (hz.trans o) x hx)
        · have e2 : frOk K H' (.ref a) = frOk K H (.ref a) := by simp only [frOk, hz, hz']
          rw [e2]
          exact h.no
  | _ => exact ⟨⟨h.ty.1, fun _ _ e => by cases e⟩, h.no⟩
/-- a list display of such things -/
theorem lsX {ta : TA} {n : Nat} {R : Hp → V → Prop} {σ : L2.St} {H : Hp} {Q : VK} (mono : ∀ (H H' : Hp) (v : V), Same H H' → R H v → R H' v) (h : MkL R n ta) (hl : n ≤ 100)
    (k : ∀ vs p H', Same H H' → H p = none → K.lookup p = none → vs.length = n → (∀ v ∈ vs, R H' v) → H' p = some (.lst vs) → Q (.ref p) H') : tLs K ta σ H Q :=
  h σ H _ fun vs H1 s1 hn hr => ⟨by rw [sizeLine_eq]; omega, fun p hp kp => k vs p _ (s1.trans (Same.new hp _)) (s1.free hp) kp hn (fun v hv => mono _ _ _ (Same.new hp _) (hr v hv)) upd_same⟩
theorem fr2_mul {q : Qt} {k : Int} (hk : 2 ≤ k) : fr2 [.int (q.1 * k), .int (q.2 * k)] = false := by
  show (decide (1 ≤ q.2 * k) && decide (Int.gcd (q.1 * k) (q.2 * k) = 1)) = false
  rw [Int.gcd_mul_right]
  have : Int.gcd q.1 q.2 * k.natAbs ≠ 1 := fun e => by
    have := Nat.eq_one_of_mul_eq_one_left e
    omega
  rw [decide_eq_false this, Bool.and_false]
theorem fr2_neg {n d : Int} (h : d < 1) : fr2 [.int n, .int d] = false := by
  show (decide (1 ≤ d) && decide (Int.gcd n d = 1)) = false
  rw [decide_eq_false (by omega), Bool.false_and]
def spBadFrac (K : PySem.W.Frag) : Sp := fun vs H Q _ => ∃ s : Addr, vs = [.ref s] ∧ Sto K H s ∧ ∀ v H', Gd K H' v → Kp s H H' → Sto K H' s → Q v H'
abbrev sBadFrac : Stmt := topS 44
theorem scBadFrac : FnScope ["_law_store_here", "_law_value_here", "_law_more", "_law_bent", "_law_bad"] ["_law_store_here"] (defScope sBadFrac) := ⟨rfl, rfl, rfl, by decide +kernel, rfl, by decide +kernel, by decide +kernel⟩
theorem k_BadFrac (T : Bt K mg) (D : Dfn K mg "_law_bad_frac" sBadFrac ["_law_store_here"]) (d__law_take : Kn P w K mg base 2 "_law_take" ["_law_store_here", "_law_many"] (spTake K)) (d__law_frac : Kn P w K mg base 3 "_law_frac" ["_law_store_here"] (spDFrac K 10)) (d__law_pick : Kn P w K mg base 3 "_law_pick" ["_law_store_here", "_law_row"] (spPick K)) : Kn P w K mg base 4 "_law_bad_frac" ["_law_store_here"] (spBadFrac K) := by
  refine Kn.mk' D scBadFrac (fun vs H Q E h => ?_) (fun f cdv A outer s H vs Q E hr h => ?_)
  · obtain ⟨s, rfl, _⟩ := h
    rfl
  obtain ⟨s, rfl, hS, k⟩ := h
  refine ⟨_, (pss_cons (ps_if (pt_cmpR op_eq (pe_kn d__law_take hr (by rfl) (pa_cons (pv 0) (pa_cons pe_int pa_nil))) pe_int (nomark _)) (pss_cons (ps_set (i := 1) scBadFrac.nd rfl (.inl rfl) (pe_kn d__law_frac hr (by rfl) (pa_cons (pv 0) pa_nil)))
      (pss_cons (ps_set (i := 2) scBadFrac.nd rfl (.inl rfl) (pe_op op_add pe_int (pe_kn d__law_take hr (by rfl) (pa_cons (pv 0) (pa_cons pe_int pa_nil)))))
      (pss_cons (ps_set (i := 3) scBadFrac.nd rfl (.inl rfl) (pe_ls (pa_cons (pe_ls (pa_cons (pe_ix ix_any (pv 1) pe_int (fun _ _ => rfl)) (pa_cons (pe_ix ix_any (pv 1) pe_int (fun _ _ => rfl)) pa_nil))) (pa_cons (pe_tp (pa_cons (pe_op op_mulW (pe_ix ix_any (pv 1) pe_int (fun _ _ => rfl)) (pv 2)) (pa_cons (pe_op op_mulW (pe_ix ix_any (pv 1) pe_int (fun _ _ => rfl)) (pv 2)) pa_nil))) (pa_cons (pe_tp (pa_cons (pe_un un_neg (pe_ix ix_any (pv 1) pe_int (fun _ _ => rfl))) (pa_cons (pe_un un_neg (pe_ix ix_any (pv 1) pe_int (fun _ _ => rfl))) pa_nil))) pa_nil)))))
      (pss_one (ps_ret (pe_kn d__law_pick hr (by rfl) (pa_cons (pv 0) (pa_cons (pe_op op_cat (pv 3) (pe_ls (pa_cons (pe_tp (pa_cons (pe_ix ix_any (pv 1) pe_int (fun _ _ => rfl)) pa_nil)) (pa_cons (pe_tp (pa_cons (pe_ix ix_any (pv 1) pe_int (fun _ _ => rfl)) (pa_cons (pe_ix ix_any (pv 1) pe_int (fun _ _ => rfl)) (pa_cons pe_int pa_nil)))) (pa_cons (pe_tp (pa_cons (pv 1) (pa_cons (pv 1) pa_nil))) (pa_cons (pe_tp (pa_cons (pe_ix ix_any (pv 1) pe_int (fun _ _ => rfl)) (pa_cons pe_int pa_nil))) pa_nil)))))) pa_nil)))))))) pss_nil)
      (pss_cons (ps_set (i := 4) scBadFrac.nd rfl (.inl rfl) (pe_ls (pa_cons (pe_tp (pa_cons pe_int (pa_cons pe_int pa_nil))) (pa_cons (pe_tp (pa_cons pe_int (pa_cons pe_int pa_nil))) (pa_cons (pe_tp (pa_cons pe_int (pa_cons pe_int pa_nil))) (pa_cons (pe_tp (pa_cons pe_int (pa_cons pe_int pa_nil))) (pa_cons (pe_tp (pa_cons pe_int (pa_cons (pe_un un_neg pe_int) pa_nil))) (pa_cons (pe_tp (pa_cons pe_int (pa_cons (pe_un un_neg pe_int) pa_nil))) (pa_cons (pe_tp (pa_cons pe_bl (pa_cons pe_int pa_nil))) (pa_cons (pe_tp (pa_cons pe_bl (pa_cons pe_int pa_nil))) (pa_cons (pe_tp (pa_cons pe_int (pa_cons pe_bl pa_nil))) (pa_cons (pe_tp (pa_cons pe_bl (pa_cons pe_int pa_nil))) (pa_cons (pe_tp (pa_cons pe_int (pa_cons pe_non pa_nil))) pa_nil)))))))))))))
      (pss_cons (ps_set (i := 4) scBadFrac.nd rfl (.inl rfl) (pe_op op_cat (pv 4) (pe_ls (pa_cons (pe_tp (pa_cons pe_str (pa_cons pe_int pa_nil))) (pa_cons (pe_ls (pa_cons pe_int (pa_cons pe_int pa_nil))) (pa_cons (pe_tp pa_nil) (pa_cons (pe_tp (pa_cons pe_int pa_nil)) (pa_cons (pe_tp (pa_cons pe_int (pa_cons pe_int (pa_cons pe_int pa_nil)))) (pa_cons (pe_ls (pa_cons (pe_tp (pa_cons pe_int (pa_cons pe_int pa_nil))) pa_nil)) pa_nil)))))))))
      (pss_one (ps_ret (pe_kn d__law_pick hr (by rfl) (pa_cons (pv 0) (pa_cons (pe_op op_cat (pv 4) (pe_ls (pa_cons pe_int (pa_cons pe_int (pa_cons pe_bl (pa_cons pe_bl (pa_cons pe_non (pa_cons pe_str (pa_cons pe_str (pa_cons pe_dn pa_nil)))))))))) pa_nil)))))))), ?_⟩
  refine ⟨_, rfl, s, 3, rfl, hS, by omega, fun i H1 z0 z1 kp st => ⟨rfl, _, rfl, ite2 (fun h => ?_) (fun h => ?_)⟩⟩
  · refine ⟨_, rfl, s, rfl, st, fun a q H2 hq kp2 st2 => ⟨_, rfl, s, 3, rfl, st2, by omega, fun m H3 m0 m1 kp3 st3 => ⟨_, _, rfl, rfl, ?_⟩⟩⟩
    obtain ⟨ys2, hys2⟩ := st2.at
    have hq3 := hq.kp kp3 hys2
    simp only [cx_K, tNext, tSeq, tAsg, gName, L2.start, List.map_cons, List.map_nil, List.cons_append, List.nil_append, List.length_cons, List.length_nil, List.replicate, Nat.reduceAdd, Nat.reduceSub, List.set_cons_zero, List.set_cons_succ]
    have k10 : (2 + m).natAbs < 2 ^ 10 := by omega
    have ty3 : (tyN K H3 (.ref a)).isSome := by rw [tyN_ref, hq3.o]; rfl
    refine lsA (R := Gd K) (fun _ _ _ s h => Gd.same s h) (mkA_cons (R := Gd K) (fun _ _ _ s h => Gd.same s h) (mkA_lc [.int q.1, .int q.2] (fun H' s' Q' h' => by
        have o := ob_same s' hq3.o
        simp only [o, cx_K, decide_true, decide_false, reduceCtorEq, gTp, gCons, gNil, ca_0, ca_1, ca_2, ca_3, ca_4, ca_5, ca_6, ca_7, ca_8, ca_9, ca_10, ca_11, ca_12, ca_13, ca_14, ca_15, ca_16, ca_17, ca_18, ca_19, ca_20, ca_21, ca_22, ca_23, ca_24, ca_25, ca_26, ca_27, ca_28, ca_29, ca_30, not_true_eq_false, not_false_eq_true, Int.reduceEq, Nat.reduceEqDiff, Nat.reduceLeDiff, rGcd, V.ty.injEq, eq_self, List.not_mem_nil, beq_self_eq_true, HO.lst.injEq, HO.tup.injEq, tFor_eq, iRng1, iList, iTup, nat10, tSeq, rIxA, rSetA, rIsN, rIsT, tTp, tLs, itsO_tup, itsO_lst, tyO_tup, tyO_lst, tyO_dK, tyN_non, tyN_bl, tyN_int, tyN_str, tyN_ref, tyNs_lt, isB, upd_same, upd_upd, sizeLine_eq, List.mem_cons, String.reduceBEq, String.reduceEq, Bool.or_false, Bool.or_true, Bool.and_false, Bool.false_or, Bool.and_self, Bool.false_and, Bool.not_false, Bool.not_true, List.any_cons, List.any_nil, atI_0, setI_0, atI_1, setI_1, atI_2, setI_2, atI_3, setI_3, atI_4, setI_4, atI_5, setI_5, atI_6, setI_6, tAsg, gName, tOp, tUn, tVar, tC, tCons, L2.tNil, tRet, tIfS, tTest, tCB, tCall, rI, rI0, rU, tNext, tB, tAnd, tOr, tNot, tAndV, tOrV, tNotV, tDrop, tIf, tPar, gSub, rIxL, rIxT, rEq, rNe, rSetL, tBits,
    L2.start, List.map_cons, List.map_nil, List.cons_append, List.nil_append, List.append_nil, List.length_cons, List.length_nil, List.replicate, Nat.reduceAdd, Nat.reduceSub, Nat.zero_add, List.getElem?_cons_zero, List.getElem?_cons_succ, List.set_cons_zero, List.set_cons_succ,
    Option.some.injEq, exists_eq_left', exists_eq_left, V.int.injEq, V.bl.injEq, V.ref.injEq, V.str.injEq, List.cons.injEq, reduceCtorEq, and_true, true_and, false_and, and_false, exists_false, or_false, false_or, or_true, true_or, exists_const, CMul, CDiv, CPow, and_assoc, exists_and_left, exists_and_right, Int.reducePow, Int.reduceNeg, Int.reduceLT, Int.reduceLE, Nat.reducePow, Nat.reduceLT, Int.reduceToNat, gt_iff_lt, ge_iff_le, decide_eq_true_eq, Bool.not_eq_true', decide_eq_false_iff_not, scal, ↓reduceIte, Bool.false_eq_true]
        exact h') (by simp))
      (mkA_cons (R := Gd K) (fun _ _ _ s h => Gd.same s h) (mkA_tc [.int (q.1 * (2 + m)), .int (q.2 * (2 + m))] (fun H' s' Q' h' => by
        have o := ob_same s' hq3.o
        simp only [o, cx_K, decide_true, decide_false, reduceCtorEq, gTp, gCons, gNil, ca_0, ca_1, ca_2, ca_3, ca_4, ca_5, ca_6, ca_7, ca_8, ca_9, ca_10, ca_11, ca_12, ca_13, ca_14, ca_15, ca_16, ca_17, ca_18, ca_19, ca_20, ca_21, ca_22, ca_23, ca_24, ca_25, ca_26, ca_27, ca_28, ca_29, ca_30, not_true_eq_false, not_false_eq_true, Int.reduceEq, Nat.reduceEqDiff, Nat.reduceLeDiff, rGcd, V.ty.injEq, eq_self, List.not_mem_nil, beq_self_eq_true, HO.lst.injEq, HO.tup.injEq, tFor_eq, iRng1, iList, iTup, nat10, tSeq, rIxA, rSetA, rIsN, rIsT, tTp, tLs, itsO_tup, itsO_lst, tyO_tup, tyO_lst, tyO_dK, tyN_non, tyN_bl, tyN_int, tyN_str, tyN_ref, tyNs_lt, isB, upd_same, upd_upd, sizeLine_eq, List.mem_cons, String.reduceBEq, String.reduceEq, Bool.or_false, Bool.or_true, Bool.and_false, Bool.false_or, Bool.and_self, Bool.false_and, Bool.not_false, Bool.not_true, List.any_cons, List.any_nil, atI_0, setI_0, atI_1, setI_1, atI_2, setI_2, atI_3, setI_3, atI_4, setI_4, atI_5, setI_5, atI_6, setI_6, tAsg, gName, tOp, tUn, tVar, tC, tCons, L2.tNil, tRet, tIfS, tTest, tCB, tCall, rI, rI0, rU, tNext, tB, tAnd, tOr, tNot, tAndV, tOrV, tNotV, tDrop, tIf, tPar, gSub, rIxL, rIxT, rEq, rNe, rSetL, tBits,
    L2.start, List.map_cons, List.map_nil, List.cons_append, List.nil_append, List.append_nil, List.length_cons, List.length_nil, List.replicate, Nat.reduceAdd, Nat.reduceSub, Nat.zero_add, List.getElem?_cons_zero, List.getElem?_cons_succ, List.set_cons_zero, List.set_cons_succ,
    Option.some.injEq, exists_eq_left', exists_eq_left, V.int.injEq, V.bl.injEq, V.ref.injEq, V.str.injEq, List.cons.injEq, reduceCtorEq, and_true, true_and, false_and, and_false, exists_false, or_false, false_or, or_true, true_or, exists_const, CMul, CDiv, CPow, and_assoc, exists_and_left, exists_and_right, Int.reducePow, Int.reduceNeg, Int.reduceLT, Int.reduceLE, Nat.reducePow, Nat.reduceLT, Int.reduceToNat, gt_iff_lt, ge_iff_le, decide_eq_true_eq, Bool.not_eq_true', decide_eq_false_iff_not, scal, ↓reduceIte, Bool.false_eq_true]
        exact ⟨mulW hq3.sz.1 k10 (by omega), mulW hq3.sz.2 k10 (by omega), h'⟩) (by simp [tyN]) (fr2_mul (by omega)) (by simp))
      (mkA_cons (R := Gd K) (fun _ _ _ s h => Gd.same s h) (mkA_tc [.int (-q.1), .int (-q.2)] (fun H' s' Q' h' => by
        have o := ob_same s' hq3.o
        simp only [o, cx_K, decide_true, decide_false, reduceCtorEq, gTp, gCons, gNil, ca_0, ca_1, ca_2, ca_3, ca_4, ca_5, ca_6, ca_7, ca_8, ca_9, ca_10, ca_11, ca_12, ca_13, ca_14, ca_15, ca_16, ca_17, ca_18, ca_19, ca_20, ca_21, ca_22, ca_23, ca_24, ca_25, ca_26, ca_27, ca_28, ca_29, ca_30, not_true_eq_false, not_false_eq_true, Int.reduceEq, Nat.reduceEqDiff, Nat.reduceLeDiff, rGcd, V.ty.injEq, eq_self, List.not_mem_nil, beq_self_eq_true, HO.lst.injEq, HO.tup.injEq, tFor_eq, iRng1, iList, iTup, nat10, tSeq, rIxA, rSetA, rIsN, rIsT, tTp, tLs, itsO_tup, itsO_lst, tyO_tup, tyO_lst, tyO_dK, tyN_non, tyN_bl, tyN_int, tyN_str, tyN_ref, tyNs_lt, isB, upd_same, upd_upd, sizeLine_eq, List.mem_cons, String.reduceBEq, String.reduceEq, Bool.or_false, Bool.or_true, Bool.and_false, Bool.false_or, Bool.and_self, Bool.false_and, Bool.not_false, Bool.not_true, List.any_cons, List.any_nil, atI_0, setI_0, atI_1, setI_1, atI_2, setI_2, atI_3, setI_3, atI_4, setI_4, atI_5, setI_5, atI_6, setI_6, tAsg, gName, tOp, tUn, tVar, tC, tCons, L2.tNil, tRet, tIfS, tTest, tCB, tCall, rI, rI0, rU, tNext, tB, tAnd, tOr, tNot, tAndV, tOrV, tNotV, tDrop, tIf, tPar, gSub, rIxL, rIxT, rEq, rNe, rSetL, tBits,
    L2.start, List.map_cons, List.map_nil, List.cons_append, List.nil_append, List.append_nil, List.length_cons, List.length_nil, List.replicate, Nat.reduceAdd, Nat.reduceSub, Nat.zero_add, List.getElem?_cons_zero, List.getElem?_cons_succ, List.set_cons_zero, List.set_cons_succ,
    Option.some.injEq, exists_eq_left', exists_eq_left, V.int.injEq, V.bl.injEq, V.ref.injEq, V.str.injEq, List.cons.injEq, reduceCtorEq, and_true, true_and, false_and, and_false, exists_false, or_false, false_or, or_true, true_or, exists_const, CMul, CDiv, CPow, and_assoc, exists_and_left, exists_and_right, Int.reducePow, Int.reduceNeg, Int.reduceLT, Int.reduceLE, Nat.reducePow, Nat.reduceLT, Int.reduceToNat, gt_iff_lt, ge_iff_le, decide_eq_true_eq, Bool.not_eq_true', decide_eq_false_iff_not, scal, ↓reduceIte, Bool.false_eq_true]
        exact h') (by simp [tyN]) (fr2_neg (by have := hq3.nf.1; omega)) (by simp)) mkA_nil))) (by decide) fun vs p H4 s4 hp kp4 hn hv hl => ?_
    refine ⟨_, rfl, _, rfl, ?_⟩
    have hq4 := hq3.same s4
    refine lsA (R := Gd K) (fun _ _ _ s h => Gd.same s h) (mkA_cons (R := Gd K) (fun _ _ _ s h => Gd.same s h) (mkA_tc [.int q.1] (fun H' s' Q' h' => by
        have o := ob_same s' hq4.o
        simp only [o, cx_K, decide_true, decide_false, reduceCtorEq, gTp, gCons, gNil, ca_0, ca_1, ca_2, ca_3, ca_4, ca_5, ca_6, ca_7, ca_8, ca_9, ca_10, ca_11, ca_12, ca_13, ca_14, ca_15, ca_16, ca_17, ca_18, ca_19, ca_20, ca_21, ca_22, ca_23, ca_24, ca_25, ca_26, ca_27, ca_28, ca_29, ca_30, not_true_eq_false, not_false_eq_true, Int.reduceEq, Nat.reduceEqDiff, Nat.reduceLeDiff, rGcd, V.ty.injEq, eq_self, List.not_mem_nil, beq_self_eq_true, HO.lst.injEq, HO.tup.injEq, tFor_eq, iRng1, iList, iTup, nat10, tSeq, rIxA, rSetA, rIsN, rIsT, tTp, tLs, itsO_tup, itsO_lst, tyO_tup, tyO_lst, tyO_dK, tyN_non, tyN_bl, tyN_int, tyN_str, tyN_ref, tyNs_lt, isB, upd_same, upd_upd, sizeLine_eq, List.mem_cons, String.reduceBEq, String.reduceEq, Bool.or_false, Bool.or_true, Bool.and_false, Bool.false_or, Bool.and_self, Bool.false_and, Bool.not_false, Bool.not_true, List.any_cons, List.any_nil, atI_0, setI_0, atI_1, setI_1, atI_2, setI_2, atI_3, setI_3, atI_4, setI_4, atI_5, setI_5, atI_6, setI_6, tAsg, gName, tOp, tUn, tVar, tC, tCons, L2.tNil, tRet, tIfS, tTest, tCB, tCall, rI, rI0, rU, tNext, tB, tAnd, tOr, tNot, tAndV, tOrV, tNotV, tDrop, tIf, tPar, gSub, rIxL, rIxT, rEq, rNe, rSetL, tBits,
    L2.start, List.map_cons, List.map_nil, List.cons_append, List.nil_append, List.append_nil, List.length_cons, List.length_nil, List.replicate, Nat.reduceAdd, Nat.reduceSub, Nat.zero_add, List.getElem?_cons_zero, List.getElem?_cons_succ, List.set_cons_zero, List.set_cons_succ,
    Option.some.injEq, exists_eq_left', exists_eq_left, V.int.injEq, V.bl.injEq, V.ref.injEq, V.str.injEq, List.cons.injEq, reduceCtorEq, and_true, true_and, false_and, and_false, exists_false, or_false, false_or, or_true, true_or, exists_const, CMul, CDiv, CPow, and_assoc, exists_and_left, exists_and_right, Int.reducePow, Int.reduceNeg, Int.reduceLT, Int.reduceLE, Nat.reducePow, Nat.reduceLT, Int.reduceToNat, gt_iff_lt, ge_iff_le, decide_eq_true_eq, Bool.not_eq_true', decide_eq_false_iff_not, scal, ↓reduceIte, Bool.false_eq_true]
        exact h') (by simp [tyN]) rfl (by simp))
      (mkA_cons (R := Gd K) (fun _ _ _ s h => Gd.same s h) (mkA_tc [.int q.1, .int q.2, .int 1] (fun H' s' Q' h' => by
        have o := ob_same s' hq4.o
        simp only [o, cx_K, decide_true, decide_false, reduceCtorEq, gTp, gCons, gNil, ca_0, ca_1, ca_2, ca_3, ca_4, ca_5, ca_6, ca_7, ca_8, ca_9, ca_10, ca_11, ca_12, ca_13, ca_14, ca_15, ca_16, ca_17, ca_18, ca_19, ca_20, ca_21, ca_22, ca_23, ca_24, ca_25, ca_26, ca_27, ca_28, ca_29, ca_30, not_true_eq_false, not_false_eq_true, Int.reduceEq, Nat.reduceEqDiff, Nat.reduceLeDiff, rGcd, V.ty.injEq, eq_self, List.not_mem_nil, beq_self_eq_true, HO.lst.injEq, HO.tup.injEq, tFor_eq, iRng1, iList, iTup, nat10, tSeq, rIxA, rSetA, rIsN, rIsT, tTp, tLs, itsO_tup, itsO_lst, tyO_tup, tyO_lst, tyO_dK, tyN_non, tyN_bl, tyN_int, tyN_str, tyN_ref, tyNs_lt, isB, upd_same, upd_upd, sizeLine_eq, List.mem_cons, String.reduceBEq, String.reduceEq, Bool.or_false, Bool.or_true, Bool.and_false, Bool.false_or, Bool.and_self, Bool.false_and, Bool.not_false, Bool.not_true, List.any_cons, List.any_nil, atI_0, setI_0, atI_1, setI_1, atI_2, setI_2, atI_3, setI_3, atI_4, setI_4, atI_5, setI_5, atI_6, setI_6, tAsg, gName, tOp, tUn, tVar, tC, tCons, L2.tNil, tRet, tIfS, tTest, tCB, tCall, rI, rI0, rU, tNext, tB, tAnd, tOr, tNot, tAndV, tOrV, tNotV, tDrop, tIf, tPar, gSub, rIxL, rIxT, rEq, rNe, rSetL, tBits,
    L2.start, List.map_cons, List.map_nil, List.cons_append, List.nil_append, List.append_nil, List.length_cons, List.length_nil, List.replicate, Nat.reduceAdd, Nat.reduceSub, Nat.zero_add, List.getElem?_cons_zero, List.getElem?_cons_succ, List.set_cons_zero, List.set_cons_succ,
    Option.some.injEq, exists_eq_left', exists_eq_left, V.int.injEq, V.bl.injEq, V.ref.injEq, V.str.injEq, List.cons.injEq, reduceCtorEq, and_true, true_and, false_and, and_false, exists_false, or_false, false_or, or_true, true_or, exists_const, CMul, CDiv, CPow, and_assoc, exists_and_left, exists_and_right, Int.reducePow, Int.reduceNeg, Int.reduceLT, Int.reduceLE, Nat.reducePow, Nat.reduceLT, Int.reduceToNat, gt_iff_lt, ge_iff_le, decide_eq_true_eq, Bool.not_eq_true', decide_eq_false_iff_not, scal, ↓reduceIte, Bool.false_eq_true]
        exact h') (by simp [tyN]) rfl (by simp))
      (mkA_cons (R := Gd K) (fun _ _ _ s h => Gd.same s h) (mkA_tc [.ref a, .ref a] (fun H' s' Q' h' => ⟨_, rfl, _, rfl, h'⟩) (by
        have := tyS_same s4 ty3
        simpa using this) rfl (by simp))
      (mkA_cons (R := Gd K) (fun _ _ _ s h => Gd.same s h) (mkA_tc [.int q.1, .int 0] (fun H' s' Q' h' => by
        have o := ob_same s' hq4.o
        simp only [o, cx_K, decide_true, decide_false, reduceCtorEq, gTp, gCons, gNil, ca_0, ca_1, ca_2, ca_3, ca_4, ca_5, ca_6, ca_7, ca_8, ca_9, ca_10, ca_11, ca_12, ca_13, ca_14, ca_15, ca_16, ca_17, ca_18, ca_19, ca_20, ca_21, ca_22, ca_23, ca_24, ca_25, ca_26, ca_27, ca_28, ca_29, ca_30, not_true_eq_false, not_false_eq_true, Int.reduceEq, Nat.reduceEqDiff, Nat.reduceLeDiff, rGcd, V.ty.injEq, eq_self, List.not_mem_nil, beq_self_eq_true, HO.lst.injEq, HO.tup.injEq, tFor_eq, iRng1, iList, iTup, nat10, tSeq, rIxA, rSetA, rIsN, rIsT, tTp, tLs, itsO_tup, itsO_lst, tyO_tup, tyO_lst, tyO_dK, tyN_non, tyN_bl, tyN_int, tyN_str, tyN_ref, tyNs_lt, isB, upd_same, upd_upd, sizeLine_eq, List.mem_cons, String.reduceBEq, String.reduceEq, Bool.or_false, Bool.or_true, Bool.and_false, Bool.false_or, Bool.and_self, Bool.false_and, Bool.not_false, Bool.not_true, List.any_cons, List.any_nil, atI_0, setI_0, atI_1, setI_1, atI_2, setI_2, atI_3, setI_3, atI_4, setI_4, atI_5, setI_5, atI_6, setI_6, tAsg, gName, tOp, tUn, tVar, tC, tCons, L2.tNil, tRet, tIfS, tTest, tCB, tCall, rI, rI0, rU, tNext, tB, tAnd, tOr, tNot, tAndV, tOrV, tNotV, tDrop, tIf, tPar, gSub, rIxL, rIxT, rEq, rNe, rSetL, tBits,
    L2.start, List.map_cons, List.map_nil, List.cons_append, List.nil_append, List.append_nil, List.length_cons, List.length_nil, List.replicate, Nat.reduceAdd, Nat.reduceSub, Nat.zero_add, List.getElem?_cons_zero, List.getElem?_cons_succ, List.set_cons_zero, List.set_cons_succ,
    Option.some.injEq, exists_eq_left', exists_eq_left, V.int.injEq, V.bl.injEq, V.ref.injEq, V.str.injEq, List.cons.injEq, reduceCtorEq, and_true, true_and, false_and, and_false, exists_false, or_false, false_or, or_true, true_or, exists_const, CMul, CDiv, CPow, and_assoc, exists_and_left, exists_and_right, Int.reducePow, Int.reduceNeg, Int.reduceLT, Int.reduceLE, Nat.reducePow, Nat.reduceLT, Int.reduceToNat, gt_iff_lt, ge_iff_le, decide_eq_true_eq, Bool.not_eq_true', decide_eq_false_iff_not, scal, ↓reduceIte, Bool.false_eq_true]
        exact h') (by simp [tyN]) (fr2_neg (by omega)) (by simp)) mkA_nil)))) (by decide) fun ws p2 H5 s5 hp2 kp5 hn5 hv5 hl5 => ?_
    refine ⟨p, p2, vs, ws, rfl, rfl, s5 _ _ hl, hl5, by rw [hn, hn5, sizeLine_eq]; omega, fun p3 h3 => ?_⟩
    have s6 : Same H3 (upd H5 p3 (.lst (vs ++ ws))) := s4.trans (s5.trans (Same.new h3 _))
    have st6 := st3.same s6
    obtain ⟨ys, hys⟩ := (st3.same (s4.trans s5)).at
    refine ⟨s, p3, vs ++ ws, rfl, st6, upd_same, ne_of_none hys h3, by rw [List.length_append, hn, hn5]; omega, by rw [List.length_append, hn, hn5]; omega, fun v H' hm kp' st' => k v H' (Gd.kp kp' st' ?_) (kp.trans (kp2.trans (kp3.trans ((Kp.same s6).trans kp')))) st'⟩
    rw [List.mem_append] at hm
    rcases hm with hm | hm
    · exact (hv v hm).same (s5.trans (Same.new h3 _))
    · exact (hv5 v hm).same (Same.new h3 _)
  · simp only [cx_K, tNext, tSeq, tAsg, gName]
    refine lsX (R := Gd K) (fun _ _ _ s h => Gd.same s h) (mkL_cons (R := Gd K) (fun _ _ _ s h => Gd.same s h) (mk_tc (K := K) [.int (2), .int (4)] (fun σ H Q h => h) rfl rfl) (mkL_cons (R := Gd K) (fun _ _ _ s h => Gd.same s h) (mk_tc (K := K) [.int (0), .int (2)] (fun σ H Q h => h) rfl rfl) (mkL_cons (R := Gd K) (fun _ _ _ s h => Gd.same s h) (mk_tc (K := K) [.int (0), .int (0)] (fun σ H Q h => h) rfl rfl) (mkL_cons (R := Gd K) (fun _ _ _ s h => Gd.same s h) (mk_tc (K := K) [.int (1), .int (0)] (fun σ H Q h => h) rfl rfl) (mkL_cons (R := Gd K) (fun _ _ _ s h => Gd.same s h) (mk_tc (K := K) [.int (1), .int (-2)] (fun σ H Q h => ⟨2, rfl, h⟩) rfl rfl) (mkL_cons (R := Gd K) (fun _ _ _ s h => Gd.same s h) (mk_tc (K := K) [.int (0), .int (-1)] (fun σ H Q h => ⟨1, rfl, h⟩) rfl rfl) (mkL_cons (R := Gd K) (fun _ _ _ s h => Gd.same s h) (mk_tc (K := K) [.bl true, .int (1)] (fun σ H Q h => h) rfl rfl) (mkL_cons (R := Gd K) (fun _ _ _ s h => Gd.same s h) (mk_tc (K := K) [.bl false, .int (1)] (fun σ H Q h => h) rfl rfl) (mkL_cons (R := Gd K) (fun _ _ _ s h => Gd.same s h) (mk_tc (K := K) [.int (1), .bl true] (fun σ H Q h => h) rfl rfl) (mkL_cons (R := Gd K) (fun _ _ _ s h => Gd.same s h) (mk_tc (K := K) [.bl true, .int (2)] (fun σ H Q h => h) rfl rfl) (mkL_cons (R := Gd K) (fun _ _ _ s h => Gd.same s h) (mk_tc (K := K) [.int (1), .non] (fun σ H Q h => h) rfl rfl) mkL_nil))))))))))) (by decide) fun vs p H2 s2 hp kp2 hn hv hl => ?_
    simp only [tOp, tVar, L2.start, List.map_cons, List.map_nil, List.cons_append, List.nil_append, List.length_cons, List.length_nil, List.replicate, Nat.reduceAdd, Nat.reduceSub, List.set_cons_zero, List.set_cons_succ, List.getElem?_cons_zero, List.getElem?_cons_succ, Option.some.injEq, exists_eq_left']
    refine lsX (R := Gd K) (fun _ _ _ s h => Gd.same s h) (mkL_cons (R := Gd K) (fun _ _ _ s h => Gd.same s h) (mk_tc (K := K) [.str "1", .int (2)] (fun σ H Q h => h) rfl rfl) (mkL_cons (R := Gd K) (fun _ _ _ s h => Gd.same s h) (mk_ls (K := K) (mkL_cons (R := fun _ _ => True) (fun _ _ _ _ _ => True.intro) (mk_any (mk_c (K := K) rfl)) (mkL_cons (R := fun _ _ => True) (fun _ _ _ _ _ => True.intro) (mk_any (mk_c (K := K) rfl)) mkL_nil))) (mkL_cons (R := Gd K) (fun _ _ _ s h => Gd.same s h) (mk_tc (K := K) [] (fun σ H Q h => h) rfl rfl) (mkL_cons (R := Gd K) (fun _ _ _ s h => Gd.same s h) (mk_tc (K := K) [.int (1)] (fun σ H Q h => h) rfl rfl) (mkL_cons (R := Gd K) (fun _ _ _ s h => Gd.same s h) (mk_tc (K := K) [.int (1), .int (2), .int (1)] (fun σ H Q h => h) rfl rfl) (mkL_cons (R := Gd K) (fun _ _ _ s h => Gd.same s h) (mk_ls (K := K) (mkL_cons (R := fun _ _ => True) (fun _ _ _ _ _ => True.intro) (mk_tup (mkL_cons (R := fun _ _ => True) (fun _ _ _ _ _ => True.intro) (mk_any (mk_c (K := K) rfl)) (mkL_cons (R := fun _ _ => True) (fun _ _ _ _ _ => True.intro) (mk_any (mk_c (K := K) rfl)) mkL_nil))) mkL_nil)) mkL_nil)))))) (by decide) fun ws p' H3 s3 hp' kp3 hn' hv' hl' => ?_
    refine ⟨p, p', vs, ws, rfl, rfl, s3 _ _ hl, hl', by rw [hn, hn', sizeLine_eq]; omega, fun p3 h3 => ⟨_, rfl, _, rfl, ?_⟩⟩
    refine lsX (R := Gd K) (fun _ _ _ s h => Gd.same s h) (mkL_cons (R := Gd K) (fun _ _ _ s h => Gd.same s h) (mk_c (K := K) rfl) (mkL_cons (R := Gd K) (fun _ _ _ s h => Gd.same s h) (mk_c (K := K) rfl) (mkL_cons (R := Gd K) (fun _ _ _ s h => Gd.same s h) (mk_c (K := K) rfl) (mkL_cons (R := Gd K) (fun _ _ _ s h => Gd.same s h) (mk_c (K := K) rfl) (mkL_cons (R := Gd K) (fun _ _ _ s h => Gd.same s h) (mk_c (K := K) rfl) (mkL_cons (R := Gd K) (fun _ _ _ s h => Gd.same s h) (mk_c (K := K) rfl) (mkL_cons (R := Gd K) (fun _ _ _ s h => Gd.same s h) (mk_c (K := K) rfl) (mkL_cons (R := Gd K) (fun _ _ _ s h => Gd.same s h) (mk_dn (K := K)) mkL_nil)))))))) (by decide) fun us p4 H4 s4 hp4 kp4 hn4 hv4 hl4 => ?_
    refine ⟨p3, p4, vs ++ ws, us, rfl, rfl, s4 _ _ upd_same, hl4, by rw [List.length_append, hn, hn', hn4, sizeLine_eq]; omega, fun p5 h5 => ?_⟩
    have s5 : Same H1 (upd H4 p5 (.lst (vs ++ ws ++ us))) := s2.trans (s3.trans ((Same.new h3 _).trans (s4.trans (Same.new h5 _))))
    have st5 := st.same s5
    obtain ⟨ys, hys⟩ := (st.same (s2.trans (s3.trans ((Same.new h3 _).trans s4)))).at
    refine ⟨s, p5, vs ++ ws ++ us, rfl, st5, upd_same, ne_of_none hys h5, by rw [List.length_append, List.length_append, hn, hn', hn4]; omega, by rw [List.length_append, List.length_append, hn, hn', hn4]; omega, fun v H' hm kp' st' => k v H' (Gd.kp kp' st' ?_) (kp.trans ((Kp.same s5).trans kp')) st'⟩
    rw [List.mem_append, List.mem_append] at hm
    rcases hm with (hm | hm) | hm
    · exact (hv v hm).same (s3.trans ((Same.new h3 _).trans (s4.trans (Same.new h5 _))))
    · exact (hv' v hm).same ((Same.new h3 _).trans (s4.trans (Same.new h5 _)))
    · exact (hv4 v hm).same (Same.new h5 _)
end
end My

namespace My
open PySem PySem.Spec PyProof.Rows L2
section
variable {P : Program} {w : World} {K : PySem.W.Frag} {mg : Str → Option Value} {base : Heap}
theorem nf_int (w : Int) : Nf (w, 1) := ⟨by show (1 : Int) ≤ 1; omega, by show Int.gcd w 1 = 1; exact Int.gcd_one_right _⟩
theorem nf_half {n : Int} (h : n % 2 = 1) : Nf (n, 2) := by
  refine ⟨by show (1 : Int) ≤ 2; omega, ?_⟩
  show Nat.gcd n.natAbs 2 = 1
  rw [Nat.gcd_comm, Nat.gcd_rec]
  have : n.natAbs % 2 = 1 := by omega
  rw [this]
  rfl
theorem nf_one {d : Int} (h : 1 ≤ d) : Nf (1, d) := ⟨h, by show Int.gcd 1 d = 1; exact Int.gcd_one_left _⟩
theorem nf_mone {d : Int} (h : 1 ≤ d) : Nf (-1, d) := ⟨h, by show Int.gcd (-1) d = 1; rw [Int.neg_gcd]; exact Int.gcd_one_left _⟩
theorem sz_of {x y : Int} {k : Nat} (h1 : x.natAbs < 2 ^ k) (h2 : y.natAbs < 2 ^ k) : Sz k (x, y) := ⟨h1, h2⟩
theorem ne_new {H : Hp} {s p : Addr} {ys : List V} (h : H s = some (.lst ys)) (hp : H p = none) : s ≠ p := ne_of_none h hp
def VB (K : PySem.W.Frag) (H : Hp) (v : V) : Prop := ∃ b q, v = .ref b ∧ Fq K H 64 b q
abbrev sDValue : Stmt := topS 46
theorem scDValue : FnScope ["_law_store_here", "_law_kind", "_law_whole_here", "_law_base", "_law_tiny"] ["_law_store_here"] (defScope sDValue) := ⟨rfl, rfl, rfl, by decide +kernel, rfl, by decide +kernel, by decide +kernel⟩
theorem k_DValue (T : Bt K mg) (D : Dfn K mg "_law_value" sDValue ["_law_store_here"]) (d__law_take : Kn P w K mg base 2 "_law_take" ["_law_store_here", "_law_many"] (spTake K)) (d__law_frac_wide : Kn P w K mg base 4 "_law_frac_wide" ["_law_store_here"] (spDFrac K 133)) (d__law_pick : Kn P w K mg base 3 "_law_pick" ["_law_store_here", "_law_row"] (spPick K)) (d__law_whole : Kn P w K mg base 3 "_law_whole" ["_law_store_here", "_law_reach"] (spLInt K)) (d__law_plus : Kn P w K mg base 3 "_law_plus" ["_law_left", "_law_right"] (spBin K sum2)) : Kn P w K mg base 5 "_law_value" ["_law_store_here"] (spDFrac K 140) := by
  refine Kn.mk' D scDValue (fun vs H Q E h => ?_) (fun f cdv A outer s H vs Q E hr h => ?_)
  · obtain ⟨s, rfl, _⟩ := h
    rfl
  obtain ⟨s, rfl, hS, k⟩ := h
  refine ⟨_, (pss_cons (ps_set (i := 1) scDValue.nd rfl (.inl rfl) (pe_kn d__law_take hr (by rfl) (pa_cons (pv 0) (pa_cons pe_int pa_nil))))
      (pss_cons (ps_if (pt_cmpR op_lt (pv 1) pe_int (nomark _)) (pss_one (ps_ret (pe_kn d__law_frac_wide hr (by rfl) (pa_cons (pv 0) pa_nil)))) pss_nil)
      (pss_cons (ps_set (i := 2) scDValue.nd rfl (.inl rfl) (pe_kn d__law_pick hr (by rfl) (pa_cons (pv 0) (pa_cons (pe_ls (pa_cons (pe_kn d__law_whole hr (by rfl) (pa_cons (pv 0) (pa_cons pe_int pa_nil))) (pa_cons (pe_kn d__law_whole hr (by rfl) (pa_cons (pv 0) (pa_cons (pe_op op_pow pe_int pe_int) pa_nil))) pa_nil))) pa_nil))))
      (pss_cons (ps_set (i := 3) scDValue.nd rfl (.inl rfl) (pe_kn d__law_pick hr (by rfl) (pa_cons (pv 0) (pa_cons (pe_ls (pa_cons (pe_tp (pa_cons (pv 2) (pa_cons pe_int pa_nil))) (pa_cons (pe_tp (pa_cons (pe_op op_add (pe_op op_mul pe_int (pv 2)) pe_int) (pa_cons pe_int pa_nil))) (pa_cons (pe_tp (pa_cons (pe_op op_sub (pe_op op_mul pe_int (pv 2)) pe_int) (pa_cons pe_int pa_nil))) pa_nil)))) pa_nil))))
      (pss_cons (ps_if (pt_cmpR op_lt (pv 1) pe_int (nomark _)) (pss_one (ps_ret (pv 3))) pss_nil)
      (pss_cons (ps_set (i := 4) scDValue.nd rfl (.inl rfl) (pe_tp (pa_cons (pe_kn d__law_pick hr (by rfl) (pa_cons (pv 0) (pa_cons (pe_ls (pa_cons pe_int (pa_cons (pe_un un_neg pe_int) pa_nil))) pa_nil))) (pa_cons (pe_op op_add pe_int (pe_kn d__law_take hr (by rfl) (pa_cons (pv 0) (pa_cons (pe_kn d__law_pick hr (by rfl) (pa_cons (pv 0) (pa_cons (pe_ls (pa_cons pe_int (pa_cons (pe_op op_pow pe_int pe_int) (pa_cons (pe_op op_pow pe_int pe_int) pa_nil)))) pa_nil))) pa_nil)))) pa_nil))))
      (pss_one (ps_ret (pe_kn d__law_plus hr (by rfl) (pa_cons (pv 3) (pa_cons (pv 4) pa_nil))))))))))), ?_⟩
  refine ⟨_, rfl, s, 6, rfl, hS, by omega, fun i H1 z0 z1 kp1 st1 => ?_⟩
  try simp only [cx_K, decide_true, decide_false, reduceCtorEq, gTp, gCons, gNil, ca_0, ca_1, ca_2, ca_3, ca_4, ca_5, ca_6, ca_7, ca_8, ca_9, ca_10, ca_11, ca_12, ca_13, ca_14, ca_15, ca_16, ca_17, ca_18, ca_19, ca_20, ca_21, ca_22, ca_23, ca_24, ca_25, ca_26, ca_27, ca_28, ca_29, ca_30, not_true_eq_false, not_false_eq_true, Int.reduceEq, Nat.reduceEqDiff, Nat.reduceLeDiff, rGcd, V.ty.injEq, eq_self, List.not_mem_nil, beq_self_eq_true, HO.lst.injEq, HO.tup.injEq, tFor_eq, iRng1, iList, iTup, nat10, tSeq, rIxA, rSetA, rIsN, rIsT, tTp, tLs, itsO_tup, itsO_lst, tyO_tup, tyO_lst, tyO_dK, tyN_non, tyN_bl, tyN_int, tyN_str, tyN_ref, tyNs_lt, isB, upd_same, upd_upd, sizeLine_eq, List.mem_cons, String.reduceBEq, String.reduceEq, Bool.or_false, Bool.or_true, Bool.and_false, Bool.false_or, Bool.and_self, Bool.false_and, Bool.not_false, Bool.not_true, List.any_cons, List.any_nil, atI_0, setI_0, atI_1, setI_1, atI_2, setI_2, atI_3, setI_3, atI_4, setI_4, atI_5, setI_5, atI_6, setI_6, tAsg, gName, tOp, tUn, tVar, tC, tCons, L2.tNil, tRet, tIfS, tTest, tCB, tCall, rI, rI0, rU, tNext, tB, tAnd, tOr, tNot, tAndV, tOrV, tNotV, tDrop, tIf, tPar, gSub, rIxL, rIxT, rEq, rNe, rSetL, tBits,
    L2.start, List.map_cons, List.map_nil, List.cons_append, List.nil_append, List.append_nil, List.length_cons, List.length_nil, List.replicate, Nat.reduceAdd, Nat.reduceSub, Nat.zero_add, List.getElem?_cons_zero, List.getElem?_cons_succ, List.set_cons_zero, List.set_cons_succ,
    Option.some.injEq, exists_eq_left', exists_eq_left, V.int.injEq, V.bl.injEq, V.ref.injEq, V.str.injEq, List.cons.injEq, reduceCtorEq, and_true, true_and, false_and, and_false, exists_false, or_false, false_or, or_true, true_or, exists_const, CMul, CDiv, CPow, and_assoc, exists_and_left, exists_and_right, Int.reducePow, Int.reduceNeg, Int.reduceLT, Int.reduceLE, Nat.reducePow, Nat.reduceLT, Int.reduceToNat, gt_iff_lt, ge_iff_le, decide_eq_true_eq, Bool.not_eq_true', decide_eq_false_iff_not, scal, ↓reduceIte, Bool.false_eq_true]
  refine ite2 (fun h => ⟨s, rfl, st1, fun a q H2 hq kp2 st2 => k a q H2 (hq.mono (by omega)) (kp1.trans kp2) st2⟩) (fun h => ?_)
  -- the whole one
  refine ⟨s, 12, rfl, st1, by omega, by omega, fun w1 H2 w10 w11 kp2 st2 => ⟨s, _, rfl, st2, by omega, by omega, fun w2 H3 w20 w21 kp3 st3 => ?_⟩⟩
  try simp only [cx_K, decide_true, decide_false, reduceCtorEq, gTp, gCons, gNil, ca_0, ca_1, ca_2, ca_3, ca_4, ca_5, ca_6, ca_7, ca_8, ca_9, ca_10, ca_11, ca_12, ca_13, ca_14, ca_15, ca_16, ca_17, ca_18, ca_19, ca_20, ca_21, ca_22, ca_23, ca_24, ca_25, ca_26, ca_27, ca_28, ca_29, ca_30, not_true_eq_false, not_false_eq_true, Int.reduceEq, Nat.reduceEqDiff, Nat.reduceLeDiff, rGcd, V.ty.injEq, eq_self, List.not_mem_nil, beq_self_eq_true, HO.lst.injEq, HO.tup.injEq, tFor_eq, iRng1, iList, iTup, nat10, tSeq, rIxA, rSetA, rIsN, rIsT, tTp, tLs, itsO_tup, itsO_lst, tyO_tup, tyO_lst, tyO_dK, tyN_non, tyN_bl, tyN_int, tyN_str, tyN_ref, tyNs_lt, isB, upd_same, upd_upd, sizeLine_eq, List.mem_cons, String.reduceBEq, String.reduceEq, Bool.or_false, Bool.or_true, Bool.and_false, Bool.false_or, Bool.and_self, Bool.false_and, Bool.not_false, Bool.not_true, List.any_cons, List.any_nil, atI_0, setI_0, atI_1, setI_1, atI_2, setI_2, atI_3, setI_3, atI_4, setI_4, atI_5, setI_5, atI_6, setI_6, tAsg, gName, tOp, tUn, tVar, tC, tCons, L2.tNil, tRet, tIfS, tTest, tCB, tCall, rI, rI0, rU, tNext, tB, tAnd, tOr, tNot, tAndV, tOrV, tNotV, tDrop, tIf, tPar, gSub, rIxL, rIxT, rEq, rNe, rSetL, tBits,
    L2.start, List.map_cons, List.map_nil, List.cons_append, List.nil_append, List.append_nil, List.length_cons, List.length_nil, List.replicate, Nat.reduceAdd, Nat.reduceSub, Nat.zero_add, List.getElem?_cons_zero, List.getElem?_cons_succ, List.set_cons_zero, List.set_cons_succ,
    Option.some.injEq, exists_eq_left', exists_eq_left, V.int.injEq, V.bl.injEq, V.ref.injEq, V.str.injEq, List.cons.injEq, reduceCtorEq, and_true, true_and, false_and, and_false, exists_false, or_false, false_or, or_true, true_or, exists_const, CMul, CDiv, CPow, and_assoc, exists_and_left, exists_and_right, Int.reducePow, Int.reduceNeg, Int.reduceLT, Int.reduceLE, Nat.reducePow, Nat.reduceLT, Int.reduceToNat, gt_iff_lt, ge_iff_le, decide_eq_true_eq, Bool.not_eq_true', decide_eq_false_iff_not, scal, ↓reduceIte, Bool.false_eq_true]
  intro p hp kpn
  obtain ⟨ys3, hys3⟩ := st3.at
  refine ⟨s, p, [.int w1, .int w2], rfl, st3.same (Same.new hp _), upd_same, ne_new hys3 hp, by simp, by simp, fun w H4 hw kp4 st4 => ?_⟩
  obtain ⟨w, rfl, hw⟩ : ∃ z : Int, w = .int z ∧ z.natAbs ≤ 10 ^ 18 := by
    simp only [List.mem_cons, List.not_mem_nil, or_false] at hw
    rcases hw with rfl | rfl
    · exact ⟨_, rfl, by omega⟩
    · exact ⟨_, rfl, by omega⟩
  have kpA : Kp s H H4 := kp1.trans (kp2.trans (kp3.trans ((Kp.same (Same.new hp _)).trans kp4)))
  clear kp1 kp2 kp3 kp4 hp
  try simp only [cx_K, decide_true, decide_false, reduceCtorEq, gTp, gCons, gNil, ca_0, ca_1, ca_2, ca_3, ca_4, ca_5, ca_6, ca_7, ca_8, ca_9, ca_10, ca_11, ca_12, ca_13, ca_14, ca_15, ca_16, ca_17, ca_18, ca_19, ca_20, ca_21, ca_22, ca_23, ca_24, ca_25, ca_26, ca_27, ca_28, ca_29, ca_30, not_true_eq_false, not_false_eq_true, Int.reduceEq, Nat.reduceEqDiff, Nat.reduceLeDiff, rGcd, V.ty.injEq, eq_self, List.not_mem_nil, beq_self_eq_true, HO.lst.injEq, HO.tup.injEq, tFor_eq, iRng1, iList, iTup, nat10, tSeq, rIxA, rSetA, rIsN, rIsT, tTp, tLs, itsO_tup, itsO_lst, tyO_tup, tyO_lst, tyO_dK, tyN_non, tyN_bl, tyN_int, tyN_str, tyN_ref, tyNs_lt, isB, upd_same, upd_upd, sizeLine_eq, List.mem_cons, String.reduceBEq, String.reduceEq, Bool.or_false, Bool.or_true, Bool.and_false, Bool.false_or, Bool.and_self, Bool.false_and, Bool.not_false, Bool.not_true, List.any_cons, List.any_nil, atI_0, setI_0, atI_1, setI_1, atI_2, setI_2, atI_3, setI_3, atI_4, setI_4, atI_5, setI_5, atI_6, setI_6, tAsg, gName, tOp, tUn, tVar, tC, tCons, L2.tNil, tRet, tIfS, tTest, tCB, tCall, rI, rI0, rU, tNext, tB, tAnd, tOr, tNot, tAndV, tOrV, tNotV, tDrop, tIf, tPar, gSub, rIxL, rIxT, rEq, rNe, rSetL, tBits,
    L2.start, List.map_cons, List.map_nil, List.cons_append, List.nil_append, List.append_nil, List.length_cons, List.length_nil, List.replicate, Nat.reduceAdd, Nat.reduceSub, Nat.zero_add, List.getElem?_cons_zero, List.getElem?_cons_succ, List.set_cons_zero, List.set_cons_succ,
    Option.some.injEq, exists_eq_left', exists_eq_left, V.int.injEq, V.bl.injEq, V.ref.injEq, V.str.injEq, List.cons.injEq, reduceCtorEq, and_true, true_and, false_and, and_false, exists_false, or_false, false_or, or_true, true_or, exists_const, CMul, CDiv, CPow, and_assoc, exists_and_left, exists_and_right, Int.reducePow, Int.reduceNeg, Int.reduceLT, Int.reduceLE, Nat.reducePow, Nat.reduceLT, Int.reduceToNat, gt_iff_lt, ge_iff_le, decide_eq_true_eq, Bool.not_eq_true', decide_eq_false_iff_not, scal, ↓reduceIte, Bool.false_eq_true]
  -- the base
  intro p1 h1 k1 p2 h2 k2 p3 h3 k3 p4 h4 k4
  have o1 := ob_same ((Same.new h2 _).trans ((Same.new h3 _).trans (Same.new h4 (.lst [.ref p1, .ref p2, .ref p3])))) (ob_new (H := H4) (o := .tup [.int w, .int 1]) k1)
  have o2 := ob_same ((Same.new h3 _).trans (Same.new h4 (.lst [.ref p1, .ref p2, .ref p3]))) (ob_new (o := .tup [.int (2 * w + 1), .int 2]) k2)
  have o3 := ob_same (Same.new h4 (.lst [.ref p1, .ref p2, .ref p3])) (ob_new (o := .tup [.int (2 * w - 1), .int 2]) k3)
  have s5 : Same H4 _ := (Same.new h1 _).trans ((Same.new h2 _).trans ((Same.new h3 _).trans (Same.new h4 (.lst [.ref p1, .ref p2, .ref p3]))))
  have st5 := st4.same s5
  have e4 := upd_same (H := upd (upd (upd H4 p1 (.tup [.int w, .int 1])) p2 (.tup [.int (2 * w + 1), .int 2])) p3 (.tup [.int (2 * w - 1), .int 2])) (a := p4) (o := .lst [.ref p1, .ref p2, .ref p3])
  obtain ⟨ys4, hys4⟩ := (st4.same ((Same.new h1 _).trans ((Same.new h2 _).trans (Same.new h3 _)))).at
  have n4 := ne_new hys4 h4
  generalize upd (upd (upd (upd H4 p1 (.tup [.int w, .int 1])) p2 (.tup [.int (2 * w + 1), .int 2])) p3 (.tup [.int (2 * w - 1), .int 2])) p4 (.lst [.ref p1, .ref p2, .ref p3]) = H5 at o1 o2 o3 s5 st5 e4 ⊢
  have all : ∀ v ∈ [V.ref p1, V.ref p2, V.ref p3], VB K H5 v := fun v hv => by
    simp only [List.mem_cons, List.not_mem_nil, or_false] at hv
    rcases hv with rfl | rfl | rfl
    · exact ⟨p1, (w, 1), rfl, o1, nf_int w, sz_of (by omega) (by omega)⟩
    · exact ⟨p2, (2 * w + 1, 2), rfl, o2, nf_half (by omega), sz_of (by omega) (by omega)⟩
    · exact ⟨p3, (2 * w - 1, 2), rfl, o3, nf_half (by omega), sz_of (by omega) (by omega)⟩
  refine ⟨s, p4, _, rfl, st5, e4, n4, by simp, by simp, fun v H6 hv kp6 st6 => ?_⟩
  obtain ⟨b, q, rfl, hq⟩ := all v hv
  obtain ⟨ys5, hys5⟩ := st5.at
  have hq6 := hq.kp kp6 hys5
  have kpB : Kp s H H6 := kpA.trans ((Kp.same s5).trans kp6)
  try simp only [cx_K, decide_true, decide_false, reduceCtorEq, gTp, gCons, gNil, ca_0, ca_1, ca_2, ca_3, ca_4, ca_5, ca_6, ca_7, ca_8, ca_9, ca_10, ca_11, ca_12, ca_13, ca_14, ca_15, ca_16, ca_17, ca_18, ca_19, ca_20, ca_21, ca_22, ca_23, ca_24, ca_25, ca_26, ca_27, ca_28, ca_29, ca_30, not_true_eq_false, not_false_eq_true, Int.reduceEq, Nat.reduceEqDiff, Nat.reduceLeDiff, rGcd, V.ty.injEq, eq_self, List.not_mem_nil, beq_self_eq_true, HO.lst.injEq, HO.tup.injEq, tFor_eq, iRng1, iList, iTup, nat10, tSeq, rIxA, rSetA, rIsN, rIsT, tTp, tLs, itsO_tup, itsO_lst, tyO_tup, tyO_lst, tyO_dK, tyN_non, tyN_bl, tyN_int, tyN_str, tyN_ref, tyNs_lt, isB, upd_same, upd_upd, sizeLine_eq, List.mem_cons, String.reduceBEq, String.reduceEq, Bool.or_false, Bool.or_true, Bool.and_false, Bool.false_or, Bool.and_self, Bool.false_and, Bool.not_false, Bool.not_true, List.any_cons, List.any_nil, atI_0, setI_0, atI_1, setI_1, atI_2, setI_2, atI_3, setI_3, atI_4, setI_4, atI_5, setI_5, atI_6, setI_6, tAsg, gName, tOp, tUn, tVar, tC, tCons, L2.tNil, tRet, tIfS, tTest, tCB, tCall, rI, rI0, rU, tNext, tB, tAnd, tOr, tNot, tAndV, tOrV, tNotV, tDrop, tIf, tPar, gSub, rIxL, rIxT, rEq, rNe, rSetL, tBits,
    L2.start, List.map_cons, List.map_nil, List.cons_append, List.nil_append, List.append_nil, List.length_cons, List.length_nil, List.replicate, Nat.reduceAdd, Nat.reduceSub, Nat.zero_add, List.getElem?_cons_zero, List.getElem?_cons_succ, List.set_cons_zero, List.set_cons_succ,
    Option.some.injEq, exists_eq_left', exists_eq_left, V.int.injEq, V.bl.injEq, V.ref.injEq, V.str.injEq, List.cons.injEq, reduceCtorEq, and_true, true_and, false_and, and_false, exists_false, or_false, false_or, or_true, true_or, exists_const, CMul, CDiv, CPow, and_assoc, exists_and_left, exists_and_right, Int.reducePow, Int.reduceNeg, Int.reduceLT, Int.reduceLE, Nat.reducePow, Nat.reduceLT, Int.reduceToNat, gt_iff_lt, ge_iff_le, decide_eq_true_eq, Bool.not_eq_true', decide_eq_false_iff_not, scal, ↓reduceIte, Bool.false_eq_true]
  refine ite2 (fun h' => k b q H6 (hq6.mono (by omega)) kpB st6) (fun h' => ?_)
  -- the tiny one
  intro p6 h6 k6
  obtain ⟨ys6, hys6⟩ := st6.at
  refine ⟨s, p6, _, rfl, st6.same (Same.new h6 _), upd_same, ne_new hys6 h6, by simp, by simp, fun e H7 he kp7 st7 => ?_⟩
  intro p7 h7 k7
  obtain ⟨ys7, hys7⟩ := st7.at
  refine ⟨s, p7, _, rfl, st7.same (Same.new h7 _), upd_same, ne_new hys7 h7, by simp, by simp, fun d H8 hd kp8 st8 => ?_⟩
  obtain ⟨d, rfl, d0, d1⟩ : ∃ z : Int, d = .int z ∧ 0 ≤ z ∧ z ≤ 10 ^ 18 := by
    simp only [List.mem_cons, List.not_mem_nil, or_false] at hd
    rcases hd with rfl | rfl | rfl <;> exact ⟨_, rfl, by omega, by omega⟩
  refine ⟨s, d, rfl, st8, by omega, fun t H9 t0 t1 kp9 st9 => ?_⟩
  try simp only [cx_K, decide_true, decide_false, reduceCtorEq, gTp, gCons, gNil, ca_0, ca_1, ca_2, ca_3, ca_4, ca_5, ca_6, ca_7, ca_8, ca_9, ca_10, ca_11, ca_12, ca_13, ca_14, ca_15, ca_16, ca_17, ca_18, ca_19, ca_20, ca_21, ca_22, ca_23, ca_24, ca_25, ca_26, ca_27, ca_28, ca_29, ca_30, not_true_eq_false, not_false_eq_true, Int.reduceEq, Nat.reduceEqDiff, Nat.reduceLeDiff, rGcd, V.ty.injEq, eq_self, List.not_mem_nil, beq_self_eq_true, HO.lst.injEq, HO.tup.injEq, tFor_eq, iRng1, iList, iTup, nat10, tSeq, rIxA, rSetA, rIsN, rIsT, tTp, tLs, itsO_tup, itsO_lst, tyO_tup, tyO_lst, tyO_dK, tyN_non, tyN_bl, tyN_int, tyN_str, tyN_ref, tyNs_lt, isB, upd_same, upd_upd, sizeLine_eq, List.mem_cons, String.reduceBEq, String.reduceEq, Bool.or_false, Bool.or_true, Bool.and_false, Bool.false_or, Bool.and_self, Bool.false_and, Bool.not_false, Bool.not_true, List.any_cons, List.any_nil, atI_0, setI_0, atI_1, setI_1, atI_2, setI_2, atI_3, setI_3, atI_4, setI_4, atI_5, setI_5, atI_6, setI_6, tAsg, gName, tOp, tUn, tVar, tC, tCons, L2.tNil, tRet, tIfS, tTest, tCB, tCall, rI, rI0, rU, tNext, tB, tAnd, tOr, tNot, tAndV, tOrV, tNotV, tDrop, tIf, tPar, gSub, rIxL, rIxT, rEq, rNe, rSetL, tBits,
    L2.start, List.map_cons, List.map_nil, List.cons_append, List.nil_append, List.append_nil, List.length_cons, List.length_nil, List.replicate, Nat.reduceAdd, Nat.reduceSub, Nat.zero_add, List.getElem?_cons_zero, List.getElem?_cons_succ, List.set_cons_zero, List.set_cons_succ,
    Option.some.injEq, exists_eq_left', exists_eq_left, V.int.injEq, V.bl.injEq, V.ref.injEq, V.str.injEq, List.cons.injEq, reduceCtorEq, and_true, true_and, false_and, and_false, exists_false, or_false, false_or, or_true, true_or, exists_const, CMul, CDiv, CPow, and_assoc, exists_and_left, exists_and_right, Int.reducePow, Int.reduceNeg, Int.reduceLT, Int.reduceLE, Nat.reducePow, Nat.reduceLT, Int.reduceToNat, gt_iff_lt, ge_iff_le, decide_eq_true_eq, Bool.not_eq_true', decide_eq_false_iff_not, scal, ↓reduceIte, Bool.false_eq_true]
  intro p9 h9 k9
  have hq9 : Fq K (upd H9 p9 (.tup [e, .int (1 + t)])) 64 b q := by
    obtain ⟨ya, ha⟩ := (st6.same (Same.new h6 _)).at
    obtain ⟨yb, hb⟩ := (st7.same (Same.new h7 _)).at
    obtain ⟨yc, hc⟩ := st8.at
    exact ((((hq6.same (Same.new h6 _)).kp kp7 ha).same (Same.new h7 _)).kp kp8 hb |>.kp kp9 hc).same (Same.new h9 _)
  have ht : ∃ z : Qt, Fq K (upd H9 p9 (.tup [e, .int (1 + t)])) 64 p9 z := by
    simp only [List.mem_cons, List.not_mem_nil, or_false] at he
    rcases he with rfl | rfl
    · exact ⟨(1, 1 + t), ob_new k9, nf_one (by omega), sz_of (by omega) (by omega)⟩
    · exact ⟨(-1, 1 + t), ob_new k9, nf_mone (by omega), sz_of (by omega) (by omega)⟩
  obtain ⟨z, hz⟩ := ht
  refine ⟨b, p9, q, z, rfl, hq9.mono (by omega), hz.mono (by omega), fun y hy c H10 s10 o10 => k c y H10 ⟨o10, hy.1, ?_⟩ ?_ ((st9.same (Same.new h9 _)).same s10)⟩
  · exact is_sz (mul_ne hq9.nf.1 hz.nf.1) hy (szAdd (szMul hq9.sz.1 hz.sz.2) (szMul hz.sz.1 hq9.sz.2) (by omega) (by omega)) (szMono (szMul hq9.sz.2 hz.sz.2) (by omega))
  · exact kpB.trans ((Kp.same (Same.new h6 _)).trans (kp7.trans ((Kp.same (Same.new h7 _)).trans (kp8.trans (kp9.trans ((Kp.same (Same.new h9 _)).trans (Kp.same s10)))))))
end
end My

namespace My
open PySem PySem.Spec PyProof.Rows L2
section
variable {P : Program} {w : World} {K : PySem.W.Frag} {mg : Str → Option Value} {base : Heap}
theorem off_sub {q : Qt} (h : Nf q) : (q.1 - (off q).1) % q.2 = 0 := by
  have e := Int.emod_add_mul_ediv q.1 q.2
  unfold off
  show (q.1 - (if q.2 < 2 * (q.1 % q.2) then q.1 % q.2 - q.2 else q.1 % q.2)) % q.2 = 0
  split
  · have : q.1 - (q.1 % q.2 - q.2) = q.2 * (q.1 / q.2 + 1) := by rw [Int.mul_add, Int.mul_one]; omega
    rw [this]
    exact Int.mul_emod_right _ _
  · have : q.1 - q.1 % q.2 = q.2 * (q.1 / q.2) := by omega
    rw [this]
    exact Int.mul_emod_right _ _
theorem part_sub {q : Qt} (h : Nf q) : (q.1 - q.1 % q.2) % q.2 = 0 := by
  have e := Int.emod_add_mul_ediv q.1 q.2
  have : q.1 - q.1 % q.2 = q.2 * (q.1 / q.2) := by omega
  rw [this]
  exact Int.mul_emod_right _ _
def spHolds (K : PySem.W.Frag) : Sp := fun vs H Q _ => ∃ (a : Addr) (q : Qt), vs = [.ref a] ∧ Fq K H 3000 a q ∧ ∀ H', Same H H' → Q (.bl true) H'
theorem nf_offA {q : Qt} (h : Nf q) : Nf (((off q).1.natAbs : Int), q.2) := nf_abs (nf_off h)
theorem divSz {q : Qt} {k : Nat} (hz : Sz k q) : (q.1 / q.2).natAbs < 2 ^ k := Nat.lt_of_le_of_lt (Int.natAbs_ediv_le_natAbs _ _) hz.1
abbrev sHolds : Stmt := topS 48
theorem scHolds : FnScope ["_law_value_here", "_law_whole_here", "_law_part_here", "_law_offset_here", "_law_distance", "_law_other"] ["_law_value_here"] (defScope sHolds) := ⟨rfl, rfl, rfl, by decide +kernel, rfl, by decide +kernel, by decide +kernel⟩
theorem k_Holds (T : Bt K mg) (D : Dfn K mg "_law_holds" sHolds ["_law_value_here"]) (d_floor_of : Kn P w K mg base 3 "floor_of" ["value"] (spFloor K)) (d_part_of : Kn P w K mg base 3 "part_of" ["value"] (spUn K fun q => (q.1 % q.2, q.2))) (d_offset_of : Kn P w K mg base 4 "offset_of" ["value"] (spUn K off)) (d_distance_of : Kn P w K mg base 5 "distance_of" ["value"] (spUn K fun q => (((off q).1.natAbs : Int), q.2))) (d__law_is_whole : Kn P w K mg base 1 "_law_is_whole" ["_law_told"] (spWhole K)) (d__law_is_fracs : Kn P w K mg base 3 "_law_is_fracs" ["_law_told"] (spLFracs K)) (d__law_leaves_whole : Kn P w K mg base 1 "_law_leaves_whole" ["_law_value_here", "_law_rest"] (spLeaves K)) : Kn P w K mg base 6 "_law_holds" ["_law_value_here"] (spHolds K) := by
  refine Kn.mk' D scHolds (fun vs H Q E h => ?_) (fun f cdv A outer s H vs Q E hr h => ?_)
  · obtain ⟨a, q, rfl, _⟩ := h
    rfl
  obtain ⟨a, q, rfl, hq, k⟩ := h
  refine ⟨_, (pss_cons (ps_set (i := 1) scHolds.nd rfl (.inl rfl) (pe_kn d_floor_of hr (by rfl) (pa_cons (pv 0) pa_nil)))
      (pss_cons (ps_set (i := 2) scHolds.nd rfl (.inl rfl) (pe_kn d_part_of hr (by rfl) (pa_cons (pv 0) pa_nil)))
      (pss_cons (ps_set (i := 3) scHolds.nd rfl (.inl rfl) (pe_kn d_offset_of hr (by rfl) (pa_cons (pv 0) pa_nil)))
      (pss_cons (ps_set (i := 4) scHolds.nd rfl (.inl rfl) (pe_kn d_distance_of hr (by rfl) (pa_cons (pv 0) pa_nil)))
      (pss_cons (ps_if (PW.pt (pw_or (pt_not (pt_val (pe_kn d__law_is_whole hr (by rfl) (pa_cons (pv 1) pa_nil)))) (pw_or1 (pt_not (pt_val (pe_kn d__law_is_fracs hr (by rfl) (pa_cons (pe_ls (pa_cons (pv 2) (pa_cons (pv 3) (pa_cons (pv 4) pa_nil)))) pa_nil))))))) (pss_one (ps_ret pe_bl)) pss_nil)
      (pss_cons (ps_if (PW.pt (pw_or (pt_cmpR op_gt (pe_op op_mulW (pv 1) (pe_ix ix_any (pv 0) pe_int (fun _ _ => rfl))) (pe_ix ix_any (pv 0) pe_int (fun _ _ => rfl)) (nomark _)) (pw_or1 (pt_cmpR op_le (pe_op op_mulW (pe_op op_add (pv 1) pe_int) (pe_ix ix_any (pv 0) pe_int (fun _ _ => rfl))) (pe_ix ix_any (pv 0) pe_int (fun _ _ => rfl)) (nomark _))))) (pss_one (ps_ret pe_bl)) pss_nil)
      (pss_cons (ps_if (PW.pt (pw_or (pt_cmpR op_lt (pe_ix ix_any (pv 2) pe_int (fun _ _ => rfl)) pe_int (nomark _)) (pw_or (pt_cmpR op_ge (pe_ix ix_any (pv 2) pe_int (fun _ _ => rfl)) (pe_ix ix_any (pv 2) pe_int (fun _ _ => rfl)) (nomark _)) (pw_or1 (pt_not (pt_val (pe_kn d__law_leaves_whole hr (by rfl) (pa_cons (pv 0) (pa_cons (pv 2) pa_nil))))))))) (pss_one (ps_ret pe_bl)) pss_nil)
      (pss_cons (ps_if (pt_cmpR op_ne (pe_op op_add (pe_ix ix_any (pv 2) pe_int (fun _ _ => rfl)) (pe_op op_mulW (pv 1) (pe_ix ix_any (pv 2) pe_int (fun _ _ => rfl)))) (pe_ix ix_any (pv 0) pe_int (fun _ _ => rfl)) (nomark _)) (pss_one (ps_ret pe_bl)) pss_nil)
      (pss_cons (ps_if (PW.pt (pw_or (pt_cmpR op_le (pe_op op_mul pe_int (pe_ix ix_any (pv 3) pe_int (fun _ _ => rfl))) (pe_un un_neg (pe_ix ix_any (pv 3) pe_int (fun _ _ => rfl))) (nomark _)) (pw_or (pt_cmpR op_gt (pe_op op_mul pe_int (pe_ix ix_any (pv 3) pe_int (fun _ _ => rfl))) (pe_ix ix_any (pv 3) pe_int (fun _ _ => rfl)) (nomark _)) (pw_or1 (pt_not (pt_val (pe_kn d__law_leaves_whole hr (by rfl) (pa_cons (pv 0) (pa_cons (pv 3) pa_nil))))))))) (pss_one (ps_ret pe_bl)) pss_nil)
      (pss_cons (ps_if (PW.pt (pw_or (pt_cmpR op_lt (pe_ix ix_any (pv 4) pe_int (fun _ _ => rfl)) pe_int (nomark _)) (pw_or1 (pt_cmpR op_gt (pe_op op_mul pe_int (pe_ix ix_any (pv 4) pe_int (fun _ _ => rfl))) (pe_ix ix_any (pv 4) pe_int (fun _ _ => rfl)) (nomark _))))) (pss_one (ps_ret pe_bl)) pss_nil)
      (pss_cons (ps_set (i := 5) scHolds.nd rfl (.inl rfl) (pe_tp (pa_cons (pe_un un_neg (pe_ix ix_any (pv 4) pe_int (fun _ _ => rfl))) (pa_cons (pe_ix ix_any (pv 4) pe_int (fun _ _ => rfl)) pa_nil))))
      (pss_one (ps_ret (pe_or (pe_kn d__law_leaves_whole hr (by rfl) (pa_cons (pv 0) (pa_cons (pv 4) pa_nil))) (pe_one (pe_kn d__law_leaves_whole hr (by rfl) (pa_cons (pv 0) (pa_cons (pv 5) pa_nil)))))))))))))))))), ?_⟩
  have hq8 := hq.mono (show 3000 ≤ 8000 by omega)
  refine ⟨_, rfl, a, q, rfl, hq8, _, rfl, a, q, rfl, hq8, fun b H1 s1 o1 => ⟨_, rfl, a, q, rfl, hq8.same s1, fun c H2 s2 o2 => ⟨_, rfl, a, q, rfl, (hq8.same s1).same s2, fun d H3 s3 o3 => ?_⟩⟩⟩
  have o1' := ob_same (s2.trans s3) o1
  have o2' := ob_same s3 o2
  have hq3 := hq.same (s1.trans (s2.trans s3))
  have f1 : Fq K H3 3000 b (q.1 % q.2, q.2) := ⟨o1', nf_part hq.nf, szPart hq.nf hq.sz⟩
  have f2 : Fq K H3 3000 c (off q) := ⟨o2', nf_off hq.nf, szOff hq.nf hq.sz⟩
  have sOff := szOff hq.nf hq.sz
  have f3 : Fq K H3 3000 d (((off q).1.natAbs : Int), q.2) := ⟨o3, nf_offA hq.nf, ⟨by show (((off q).1.natAbs : Int)).natAbs < 2 ^ 3000; rw [Int.natAbs_natCast]; exact sOff.1, hq.sz.2⟩⟩
  have s123 := s1.trans (s2.trans s3)
  clear o1 o2 o3 o1' o2' s1 s2 s3 hq8
  have q2 := hq.nf.1
  have m0 := Int.emod_nonneg q.1 hq.nf.ne
  have m1 := Int.emod_lt_of_pos q.1 (show 0 < q.2 by omega)
  have me := Int.emod_add_mul_ediv q.1 q.2
  simp only [cx_K, decide_true, decide_false, reduceCtorEq, gTp, gCons, gNil, ca_0, ca_1, ca_2, ca_3, ca_4, ca_5, ca_6, ca_7, ca_8, ca_9, ca_10, ca_11, ca_12, ca_13, ca_14, ca_15, ca_16, ca_17, ca_18, ca_19, ca_20, ca_21, ca_22, ca_23, ca_24, ca_25, ca_26, ca_27, ca_28, ca_29, ca_30, not_true_eq_false, not_false_eq_true, Int.reduceEq, Nat.reduceEqDiff, Nat.reduceLeDiff, rGcd, V.ty.injEq, eq_self, List.not_mem_nil, beq_self_eq_true, HO.lst.injEq, HO.tup.injEq, tFor_eq, iRng1, iList, iTup, nat10, tSeq, rIxA, rSetA, rIsN, rIsT, tTp, tLs, itsO_tup, itsO_lst, tyO_tup, tyO_lst, tyO_dK, tyN_non, tyN_bl, tyN_int, tyN_str, tyN_ref, tyNs_lt, isB, upd_same, upd_upd, sizeLine_eq, List.mem_cons, String.reduceBEq, String.reduceEq, Bool.or_false, Bool.or_true, Bool.and_false, Bool.false_or, Bool.and_self, Bool.false_and, Bool.not_false, Bool.not_true, List.any_cons, List.any_nil, atI_0, setI_0, atI_1, setI_1, atI_2, setI_2, atI_3, setI_3, atI_4, setI_4, atI_5, setI_5, atI_6, setI_6, tAsg, gName, tOp, tUn, tVar, tC, tCons, L2.tNil, tRet, tIfS, tTest, tCB, tCall, rI, rI0, rU, tNext, tB, tAnd, tOr, tNot, tAndV, tOrV, tNotV, tDrop, tIf, tPar, gSub, rIxL, rIxT, rEq, rNe, rSetL, tBits,
    L2.start, List.map_cons, List.map_nil, List.cons_append, List.nil_append, List.append_nil, List.length_cons, List.length_nil, List.replicate, Nat.reduceAdd, Nat.reduceSub, Nat.zero_add, List.getElem?_cons_zero, List.getElem?_cons_succ, List.set_cons_zero, List.set_cons_succ,
    Option.some.injEq, exists_eq_left', exists_eq_left, V.int.injEq, V.bl.injEq, V.ref.injEq, V.str.injEq, List.cons.injEq, reduceCtorEq, and_true, true_and, false_and, and_false, exists_false, or_false, false_or, or_true, true_or, exists_const, CMul, CDiv, CPow, and_assoc, exists_and_left, exists_and_right, Int.reducePow, Int.reduceNeg, Int.reduceLT, Int.reduceLE, Nat.reducePow, Nat.reduceLT, Int.reduceToNat, gt_iff_lt, ge_iff_le, decide_eq_true_eq, Bool.not_eq_true', decide_eq_false_iff_not, scal, ↓reduceIte, Bool.false_eq_true]
  refine ⟨_, rfl, rfl, true, rfl, ?_⟩
  rw [if_neg Bool.noConfusion]
  intro l hl kl
  have sl := Same.new hl (.lst [.ref b, .ref c, .ref d])
  have hq4 := hq3.same sl
  have g1 := f1.same sl
  have g2 := f2.same sl
  have g3 := f3.same sl
  refine ⟨l, _, rfl, upd_same, kl, fun x hx => ?_, true, rfl, ?_⟩
  · simp only [List.mem_cons, List.not_mem_nil, or_false] at hx
    rcases hx with rfl | rfl | rfl
    · exact ⟨b, _, rfl, g1.mono (by omega)⟩
    · exact ⟨c, _, rfl, g2.mono (by omega)⟩
    · exact ⟨d, _, rfl, g3.mono (by omega)⟩
  rw [if_neg Bool.noConfusion]
  have s4 := s123.trans sl
  generalize upd H3 l (.lst [.ref b, .ref c, .ref d]) = H4 at hq4 g1 g2 g3 s4 ⊢
  clear hq3 f1 f2 f3 sl hl kl s123
  have dz := divSz hq.sz
  have dz1 : (q.1 / q.2 + 1).natAbs < 2 ^ 3001 := szAdd dz (show (1 : Int).natAbs < 2 ^ 3000 from Nat.one_lt_two_pow (by omega)) (by omega) (by omega)
  simp only [hq4.o, g1.o, g2.o, g3.o, cx_K, decide_true, decide_false, reduceCtorEq, gTp, gCons, gNil, ca_0, ca_1, ca_2, ca_3, ca_4, ca_5, ca_6, ca_7, ca_8, ca_9, ca_10, ca_11, ca_12, ca_13, ca_14, ca_15, ca_16, ca_17, ca_18, ca_19, ca_20, ca_21, ca_22, ca_23, ca_24, ca_25, ca_26, ca_27, ca_28, ca_29, ca_30, not_true_eq_false, not_false_eq_true, Int.reduceEq, Nat.reduceEqDiff, Nat.reduceLeDiff, rGcd, V.ty.injEq, eq_self, List.not_mem_nil, beq_self_eq_true, HO.lst.injEq, HO.tup.injEq, tFor_eq, iRng1, iList, iTup, nat10, tSeq, rIxA, rSetA, rIsN, rIsT, tTp, tLs, itsO_tup, itsO_lst, tyO_tup, tyO_lst, tyO_dK, tyN_non, tyN_bl, tyN_int, tyN_str, tyN_ref, tyNs_lt, isB, upd_same, upd_upd, sizeLine_eq, List.mem_cons, String.reduceBEq, String.reduceEq, Bool.or_false, Bool.or_true, Bool.and_false, Bool.false_or, Bool.and_self, Bool.false_and, Bool.not_false, Bool.not_true, List.any_cons, List.any_nil, atI_0, setI_0, atI_1, setI_1, atI_2, setI_2, atI_3, setI_3, atI_4, setI_4, atI_5, setI_5, atI_6, setI_6, tAsg, gName, tOp, tUn, tVar, tC, tCons, L2.tNil, tRet, tIfS, tTest, tCB, tCall, rI, rI0, rU, tNext, tB, tAnd, tOr, tNot, tAndV, tOrV, tNotV, tDrop, tIf, tPar, gSub, rIxL, rIxT, rEq, rNe, rSetL, tBits,
    L2.start, List.map_cons, List.map_nil, List.cons_append, List.nil_append, List.append_nil, List.length_cons, List.length_nil, List.replicate, Nat.reduceAdd, Nat.reduceSub, Nat.zero_add, List.getElem?_cons_zero, List.getElem?_cons_succ, List.set_cons_zero, List.set_cons_succ,
    Option.some.injEq, exists_eq_left', exists_eq_left, V.int.injEq, V.bl.injEq, V.ref.injEq, V.str.injEq, List.cons.injEq, reduceCtorEq, and_true, true_and, false_and, and_false, exists_false, or_false, false_or, or_true, true_or, exists_const, CMul, CDiv, CPow, and_assoc, exists_and_left, exists_and_right, Int.reducePow, Int.reduceNeg, Int.reduceLT, Int.reduceLE, Nat.reducePow, Nat.reduceLT, Int.reduceToNat, gt_iff_lt, ge_iff_le, decide_eq_true_eq, Bool.not_eq_true', decide_eq_false_iff_not, scal, ↓reduceIte, Bool.false_eq_true]
  have cm := Int.mul_comm (q.1 / q.2) q.2
  have cm1 : (q.1 / q.2 + 1) * q.2 = q.1 / q.2 * q.2 + q.2 := by rw [Int.add_mul, Int.one_mul]
  refine ⟨mulW dz hq.sz.2 (by omega), ?_⟩
  rw [if_neg (by omega)]
  refine ⟨mulW dz1 hq.sz.2 (by omega), ?_⟩
  rw [if_neg (by omega), if_neg (by omega), if_neg (by omega)]
  have L1 : (decide (q.2 = q.2) && decide ((q.1 - q.1 % q.2) % q.2 = 0)) = true := by rw [decide_eq_true rfl, decide_eq_true (part_sub hq.nf)]; rfl
  have L2' : (decide (q.2 = q.2) && decide ((q.1 - (off q).1) % q.2 = 0)) = true := by rw [decide_eq_true rfl, decide_eq_true (off_sub hq.nf)]; rfl
  refine ⟨a, b, q, (q.1 % q.2, q.2), rfl, hq4.mono (by omega), g1.mono (by omega), true, congrArg V.bl L1, ?_⟩
  rw [if_neg Bool.noConfusion]
  simp only [hq4.o, g1.o, g2.o, g3.o, cx_K, decide_true, decide_false, reduceCtorEq, gTp, gCons, gNil, ca_0, ca_1, ca_2, ca_3, ca_4, ca_5, ca_6, ca_7, ca_8, ca_9, ca_10, ca_11, ca_12, ca_13, ca_14, ca_15, ca_16, ca_17, ca_18, ca_19, ca_20, ca_21, ca_22, ca_23, ca_24, ca_25, ca_26, ca_27, ca_28, ca_29, ca_30, not_true_eq_false, not_false_eq_true, Int.reduceEq, Nat.reduceEqDiff, Nat.reduceLeDiff, rGcd, V.ty.injEq, eq_self, List.not_mem_nil, beq_self_eq_true, HO.lst.injEq, HO.tup.injEq, tFor_eq, iRng1, iList, iTup, nat10, tSeq, rIxA, rSetA, rIsN, rIsT, tTp, tLs, itsO_tup, itsO_lst, tyO_tup, tyO_lst, tyO_dK, tyN_non, tyN_bl, tyN_int, tyN_str, tyN_ref, tyNs_lt, isB, upd_same, upd_upd, sizeLine_eq, List.mem_cons, String.reduceBEq, String.reduceEq, Bool.or_false, Bool.or_true, Bool.and_false, Bool.false_or, Bool.and_self, Bool.false_and, Bool.not_false, Bool.not_true, List.any_cons, List.any_nil, atI_0, setI_0, atI_1, setI_1, atI_2, setI_2, atI_3, setI_3, atI_4, setI_4, atI_5, setI_5, atI_6, setI_6, tAsg, gName, tOp, tUn, tVar, tC, tCons, L2.tNil, tRet, tIfS, tTest, tCB, tCall, rI, rI0, rU, tNext, tB, tAnd, tOr, tNot, tAndV, tOrV, tNotV, tDrop, tIf, tPar, gSub, rIxL, rIxT, rEq, rNe, rSetL, tBits,
    L2.start, List.map_cons, List.map_nil, List.cons_append, List.nil_append, List.append_nil, List.length_cons, List.length_nil, List.replicate, Nat.reduceAdd, Nat.reduceSub, Nat.zero_add, List.getElem?_cons_zero, List.getElem?_cons_succ, List.set_cons_zero, List.set_cons_succ,
    Option.some.injEq, exists_eq_left', exists_eq_left, V.int.injEq, V.bl.injEq, V.ref.injEq, V.str.injEq, List.cons.injEq, reduceCtorEq, and_true, true_and, false_and, and_false, exists_false, or_false, false_or, or_true, true_or, exists_const, CMul, CDiv, CPow, and_assoc, exists_and_left, exists_and_right, Int.reducePow, Int.reduceNeg, Int.reduceLT, Int.reduceLE, Nat.reducePow, Nat.reduceLT, Int.reduceToNat, gt_iff_lt, ge_iff_le, decide_eq_true_eq, Bool.not_eq_true', decide_eq_false_iff_not, scal, ↓reduceIte, Bool.false_eq_true]
  refine ⟨mulW dz hq.sz.2 (by omega), ?_⟩
  rw [if_neg (show ¬ ¬ (q.1 % q.2 + q.1 / q.2 * q.2 = q.1) by omega)]
  have of2 : (off q).2 = q.2 := rfl
  have of1 : (off q).1 = if q.2 < 2 * (q.1 % q.2) then q.1 % q.2 - q.2 else q.1 % q.2 := rfl
  have ofr : -q.2 < 2 * (off q).1 ∧ 2 * (off q).1 ≤ q.2 := by
    rw [of1]
    split <;> omega
  rw [if_neg (by omega), if_neg (by omega)]
  refine ⟨a, c, q, off q, rfl, hq4.mono (by omega), g2.mono (by omega), true, congrArg V.bl L2', ?_⟩
  rw [if_neg Bool.noConfusion]
  simp only [hq4.o, g1.o, g2.o, g3.o, cx_K, decide_true, decide_false, reduceCtorEq, gTp, gCons, gNil, ca_0, ca_1, ca_2, ca_3, ca_4, ca_5, ca_6, ca_7, ca_8, ca_9, ca_10, ca_11, ca_12, ca_13, ca_14, ca_15, ca_16, ca_17, ca_18, ca_19, ca_20, ca_21, ca_22, ca_23, ca_24, ca_25, ca_26, ca_27, ca_28, ca_29, ca_30, not_true_eq_false, not_false_eq_true, Int.reduceEq, Nat.reduceEqDiff, Nat.reduceLeDiff, rGcd, V.ty.injEq, eq_self, List.not_mem_nil, beq_self_eq_true, HO.lst.injEq, HO.tup.injEq, tFor_eq, iRng1, iList, iTup, nat10, tSeq, rIxA, rSetA, rIsN, rIsT, tTp, tLs, itsO_tup, itsO_lst, tyO_tup, tyO_lst, tyO_dK, tyN_non, tyN_bl, tyN_int, tyN_str, tyN_ref, tyNs_lt, isB, upd_same, upd_upd, sizeLine_eq, List.mem_cons, String.reduceBEq, String.reduceEq, Bool.or_false, Bool.or_true, Bool.and_false, Bool.false_or, Bool.and_self, Bool.false_and, Bool.not_false, Bool.not_true, List.any_cons, List.any_nil, atI_0, setI_0, atI_1, setI_1, atI_2, setI_2, atI_3, setI_3, atI_4, setI_4, atI_5, setI_5, atI_6, setI_6, tAsg, gName, tOp, tUn, tVar, tC, tCons, L2.tNil, tRet, tIfS, tTest, tCB, tCall, rI, rI0, rU, tNext, tB, tAnd, tOr, tNot, tAndV, tOrV, tNotV, tDrop, tIf, tPar, gSub, rIxL, rIxT, rEq, rNe, rSetL, tBits,
    L2.start, List.map_cons, List.map_nil, List.cons_append, List.nil_append, List.append_nil, List.length_cons, List.length_nil, List.replicate, Nat.reduceAdd, Nat.reduceSub, Nat.zero_add, List.getElem?_cons_zero, List.getElem?_cons_succ, List.set_cons_zero, List.set_cons_succ,
    Option.some.injEq, exists_eq_left', exists_eq_left, V.int.injEq, V.bl.injEq, V.ref.injEq, V.str.injEq, List.cons.injEq, reduceCtorEq, and_true, true_and, false_and, and_false, exists_false, or_false, false_or, or_true, true_or, exists_const, CMul, CDiv, CPow, and_assoc, exists_and_left, exists_and_right, Int.reducePow, Int.reduceNeg, Int.reduceLT, Int.reduceLE, Nat.reducePow, Nat.reduceLT, Int.reduceToNat, gt_iff_lt, ge_iff_le, decide_eq_true_eq, Bool.not_eq_true', decide_eq_false_iff_not, scal, ↓reduceIte, Bool.false_eq_true]
  rw [if_neg (by omega), if_neg (by omega)]
  intro p hp kp
  have s5 := Same.new hp (.tup [V.int (-((off q).1.natAbs : Int)), V.int q.2])
  have nA := nf_offA hq.nf
  have g4 : Fq K (upd H4 p (.tup [V.int (-((off q).1.natAbs : Int)), V.int q.2])) 3000 p (-((off q).1.natAbs : Int), q.2) := ⟨ob_new kp, nf_neg nA, by show (-((off q).1.natAbs : Int)).natAbs < 2 ^ 3000; rw [Int.natAbs_neg]; exact g3.sz.1, hq.sz.2⟩
  have hq5 := (hq4.same s5).mono (show 3000 ≤ 8000 by omega)
  refine ⟨a, d, q, (((off q).1.natAbs : Int), q.2), rfl, hq5, (g3.same s5).mono (by omega), _, rfl, ?_⟩
  by_cases hL : (q.1 - ((off q).1.natAbs : Int)) % q.2 = 0
  · rw [decide_eq_true (show q.2 = q.2 from rfl), decide_eq_true hL]
    exact k _ (s4.trans s5)
  · rw [decide_eq_true (show q.2 = q.2 from rfl), decide_eq_false hL]
    refine ⟨a, p, q, (-((off q).1.natAbs : Int), q.2), rfl, hq5, g4.mono (by omega), ?_⟩
    have neg : (off q).1 < 0 := Int.not_le.mp fun z => hL (by rw [show ((off q).1.natAbs : Int) = (off q).1 by omega]; exact off_sub hq.nf)
    have hL2 : (q.1 - -((off q).1.natAbs : Int)) % q.2 = 0 := by rw [show -((off q).1.natAbs : Int) = (off q).1 by omega]; exact off_sub hq.nf
    rw [decide_eq_true (show q.2 = q.2 from rfl), decide_eq_true hL2]
    exact k _ (s4.trans s5)
end
end My

namespace My
open PySem PySem.Spec PyProof.Rows L2
section
variable {P : Program} {w : World} {K : PySem.W.Frag} {mg : Str → Option Value} {base : Heap}
end
/-! ### what a def that raises keeps -/
structure KnX (P : Program) (w : World) (K : PySem.W.Frag) (mg : Str → Option Value) (base : Heap) (k : Nat) (x : Str) (ps : List Str) (sp : Sp) : Prop where
  ex : ∃ f fd, mg x = some (.ref f) ∧ PySem.W.keepIn K (.ref f) = true ∧ Binds K fd ps [] ∧ FnOk P w K mg base (L2.CX P w) k f fd ps sp
theorem KnX.mk' {P : Program} {w : World} {K : PySem.W.Frag} {mg : Str → Option Value} {base : Heap} {x : Str} {st : Stmt} {N ps : List Str} {k : Nat} {sp : Sp} (D : Dfn K mg x st ps) (S : FnScope N ps (defScope st)) (len : ∀ vs H Q E, sp vs H Q E → vs.length = ps.length)
    (hbody : ∀ (f : Addr) (cdv : Value) (A : Around) (outer : List Env) (s : Shared) (H : Hp) (vs : List V) (Q : VK) (E : XK), Room k (A.deeper (envOfC x (defScope st) s.heap.objs.size f cdv)) → sp vs H Q E →
      ∃ t, PSs (cxOf (L2.CX P w) P w K mg base N x (defScope st) f cdv A outer s H E) (defBody st) t ∧ t { nx := fun _ H' => Q .non H', rt := Q } (start N vs) H) : KnX P w K mg base (k + 1) x ps sp := by
  obtain ⟨f, fd, F, m, b⟩ := D.ex
  exact ⟨f, fd, m, F.kp, b, F.okX S len (hbody f)⟩
section
variable {X : Cx}
theorem pe_knX {j k : Nat} {x : Str} {ps : List Str} {sp : Sp} {p pos : Pos} {e : Expr} {es : List Expr} {t : TA} {W : WX} (E : XK) (F : KnX X.prog X.w X.K X.mg X.base k x ps sp) (hr : Room j X.A) (hg : Gl X x) (tk : Takes X W) (hW : ∀ cls d σ H, E cls d H → W cls d σ H) (ha : PA X (e :: es) t) (hj : k ≤ j := by omega)
    (hdb : (x == ("__debug__" : Str)) = false := by decide) (he : starEach (e :: es) X.env = (false, eval e X.env) :: starEach es X.env := by rfl) (hpl : (backTo pos (starEach es X.env)).any (·.1) = false := by rfl) :
    PE X (.Call (.Name x p) (e :: es) [] pos) (tCall sp [] E t) := by
  obtain ⟨f, fd, m, kp, b, G⟩ := F.ex
  exact pe_call G (hr.mono hj) hg m kp b .nil (passes_call tk hW) ha hdb he hpl
end
/-! ### BadValue -/
structure BvT (K : PySem.W.Frag) (mg : Str → Option Value) (C : Addr) : Prop where
  g : mg "BadValue" = some (.ref C)
  ox : OexC K C
  no : PySem.W.findIn K (.ref C) "what" = some none
  ini : ∃ fI fd, PySem.W.findIn K (.ref C) "__init__" = some (some (.ref fI)) ∧ PySem.W.typeIn K (.ref fI) = some (.type "function") ∧ Fun K "__init__" "BadValue.__init__" (inClass (topS 3) 0) fI fd ∧ Binds K fd ["self", "what"] []
def spInit (C : Addr) : Sp := fun vs H Q _ => ∃ (a : Addr) (y : V), vs = [.ref a, y] ∧ H a = some (exo a C none) ∧ ∀ dx, H dx = none → dx ≠ a → Q .non (upd (upd H dx (exd dx [("what", y)])) a (exo a C (some dx)))
/-- an error of BadValue: its own dict d, what it names -/
def Bv (K : PySem.W.Frag) (C : Addr) (H : Hp) (E : XK) (y : V) : Prop := ∀ (d : Addr) (H' : Hp), Same H H' → H' d = some (.xd [("what", y)]) → E (.ref C) (some d) H'
def spRequireX (K : PySem.W.Frag) (C : Addr) : Sp := fun vs H _ E => ∃ y : V, vs = [.bl false, y] ∧ Bv K C H E y
section
variable {P : Program} {w : World} {K : PySem.W.Frag} {mg : Str → Option Value} {base : Heap}
abbrev sInitB : Stmt := inClass (topS 3) 0
theorem scInitB : FnScope ["self", "what"] ["self", "what"] (defScope sInitB) := ⟨rfl, rfl, rfl, by decide +kernel, rfl, by decide +kernel, by decide +kernel⟩
theorem ok_initB {C fI : Addr} {fd : FuncData} (B : BvT K mg C) (F : Fun K "__init__" "BadValue.__init__" sInitB fI fd) : FnOk P w K mg base CX0 1 fI fd ["self", "what"] (spInit C) := by
  refine F.ok scInitB (fun vs H Q E h => ?_) (fun cdv A outer s H vs Q E hr h => ?_)
  · obtain ⟨a, y, rfl, _⟩ := h
    rfl
  obtain ⟨a, y, rfl, ha, k⟩ := h
  refine ⟨_, pss_one (ps_ost (pv 0) (pv 1)), ?_⟩
  exact ⟨_, rfl, _, rfl, a, C, rfl, B.ox, B.no, .inl ⟨ha, k⟩⟩
theorem kx_Require {C : Addr} (B : BvT K mg C) (D : Dfn K mg "require" sRequire ["well_formed", "what"]) : KnX P w K mg base 3 "require" ["well_formed", "what"] (spRequireX K C) := by
  refine KnX.mk' D scRequire (fun vs H Q E h => ?_) (fun f cdv A outer s H vs Q E hr h => ?_)
  · obtain ⟨y, rfl, _⟩ := h
    rfl
  obtain ⟨y, rfl, k⟩ := h
  obtain ⟨fI, fd, iC, tI, F, b⟩ := B.ini
  refine ⟨_, (pss_one (ps_if (pt_not (pt_val (pv 0))) (pss_one (ps_raise rfl (takes_of rfl rfl rfl rfl) (pmk_oex B.ox iC tI (ok_initB B F) hr b .nil pass0 (by rfl) B.g (pa_cons (pv 1) pa_nil)))) pss_nil)), ?_⟩
  refine ⟨_, rfl, _, rfl, iteT ?_⟩
  refine ⟨_, rfl, by show 1 ≤ 1000; decide, fun a na => ⟨a, y, rfl, upd_same, fun dx ndx ne => ⟨rfl, dx, [("what", y)], upd_same, ?_, ?_, ?_⟩⟩⟩
  · rw [upd_ne ne, upd_same]
  · rw [upd_ne ne] at ndx
    exact ndx
  · rw [upd_ne ne] at ndx
    refine k dx _ (fun b o e => ?_) upd_same
    rw [upd_ne (ne_of_none e ndx), del_ne (ne_of_none e na), upd_ne (ne_of_none e na), upd_ne (ne_of_none e ndx), upd_ne (ne_of_none e na)]
    exact e
def spBadUn (K : PySem.W.Frag) (C : Addr) : Sp := fun vs H _ E => ∃ v, vs = [v] ∧ Gd K H v ∧ Bv K C H E (.str "value")
theorem kx_Floor {C : Addr} (B : BvT K mg C) (D : Dfn K mg "floor_of" sFloor ["value"]) (d_require : KnX P w K mg base 3 "require" ["well_formed", "what"] (spRequireX K C)) (d_is_fraction : Kn P w K mg base 2 "is_fraction" ["value"] (spIsFraction K)) : KnX P w K mg base 4 "floor_of" ["value"] (spBadUn K C) := by
  refine KnX.mk' D scFloor (fun vs H Q E h => ?_) (fun f cdv A outer s H vs Q E hr h => ?_)
  · obtain ⟨v, rfl, _⟩ := h
    rfl
  obtain ⟨v, rfl, hv, k⟩ := h
  refine ⟨_, (pss_cons (ps_expr (pe_knX E d_require hr (by rfl) (takes_of rfl rfl rfl rfl) (fun _ _ _ _ h => h) (pa_cons (pe_kn d_is_fraction hr (by rfl) (pa_cons (pv 0) pa_nil)) (pa_cons pe_str pa_nil)))) (pss_one ps_never)), ?_⟩
  refine ⟨_, rfl, v, rfl, hv.ty, _, by rw [hv.no]; rfl, k⟩
theorem kx_Part {C : Addr} (B : BvT K mg C) (D : Dfn K mg "part_of" sPart ["value"]) (d_require : KnX P w K mg base 3 "require" ["well_formed", "what"] (spRequireX K C)) (d_is_fraction : Kn P w K mg base 2 "is_fraction" ["value"] (spIsFraction K)) : KnX P w K mg base 4 "part_of" ["value"] (spBadUn K C) := by
  refine KnX.mk' D scPart (fun vs H Q E h => ?_) (fun f cdv A outer s H vs Q E hr h => ?_)
  · obtain ⟨v, rfl, _⟩ := h
    rfl
  obtain ⟨v, rfl, hv, k⟩ := h
  refine ⟨_, (pss_cons (ps_expr (pe_knX E d_require hr (by rfl) (takes_of rfl rfl rfl rfl) (fun _ _ _ _ h => h) (pa_cons (pe_kn d_is_fraction hr (by rfl) (pa_cons (pv 0) pa_nil)) (pa_cons pe_str pa_nil)))) (pss_one ps_never)), ?_⟩
  refine ⟨_, rfl, v, rfl, hv.ty, _, by rw [hv.no]; rfl, k⟩
theorem kx_Offset {C : Addr} (B : BvT K mg C) (D : Dfn K mg "offset_of" sOffset ["value"]) (d_require : KnX P w K mg base 3 "require" ["well_formed", "what"] (spRequireX K C)) (d_is_fraction : Kn P w K mg base 2 "is_fraction" ["value"] (spIsFraction K)) : KnX P w K mg base 4 "offset_of" ["value"] (spBadUn K C) := by
  refine KnX.mk' D scOffset (fun vs H Q E h => ?_) (fun f cdv A outer s H vs Q E hr h => ?_)
  · obtain ⟨v, rfl, _⟩ := h
    rfl
  obtain ⟨v, rfl, hv, k⟩ := h
  refine ⟨_, (pss_cons (ps_expr (pe_knX E d_require hr (by rfl) (takes_of rfl rfl rfl rfl) (fun _ _ _ _ h => h) (pa_cons (pe_kn d_is_fraction hr (by rfl) (pa_cons (pv 0) pa_nil)) (pa_cons pe_str pa_nil)))) (pss_cons ps_never (pss_cons ps_never (pss_one ps_never)))), ?_⟩
  refine ⟨_, rfl, v, rfl, hv.ty, _, by rw [hv.no]; rfl, k⟩
theorem kx_Distance {C : Addr} (B : BvT K mg C) (D : Dfn K mg "distance_of" sDistance ["value"]) (d_require : KnX P w K mg base 3 "require" ["well_formed", "what"] (spRequireX K C)) (d_is_fraction : Kn P w K mg base 2 "is_fraction" ["value"] (spIsFraction K)) : KnX P w K mg base 4 "distance_of" ["value"] (spBadUn K C) := by
  refine KnX.mk' D scDistance (fun vs H Q E h => ?_) (fun f cdv A outer s H vs Q E hr h => ?_)
  · obtain ⟨v, rfl, _⟩ := h
    rfl
  obtain ⟨v, rfl, hv, k⟩ := h
  refine ⟨_, (pss_cons (ps_expr (pe_knX E d_require hr (by rfl) (takes_of rfl rfl rfl rfl) (fun _ _ _ _ h => h) (pa_cons (pe_kn d_is_fraction hr (by rfl) (pa_cons (pv 0) pa_nil)) (pa_cons pe_str pa_nil)))) (pss_one ps_never)), ?_⟩
  refine ⟨_, rfl, v, rfl, hv.ty, _, by rw [hv.no]; rfl, k⟩
end
end My

namespace My
open PySem PySem.Spec PyProof.Rows L2
section
variable {P : Program} {w : World} {K : PySem.W.Frag} {mg : Str → Option Value} {base : Heap}
end
/-- what the written part says of the errors' classes: C is BadValue, S SkyError, A the eleven by name -/
structure AskT (K : PySem.W.Frag) (mg : Str → Option Value) (C S : Addr) (A : String → Addr) : Prop where
  sky : mg "SkyError" = some (.ref S)
  exm : PySem.W.exmOne K (.ref C) (.ref S) = some true
  g : ∀ n ∈ ["BadValue", "Mismatch", "Still", "Endless", "TooMany", "NoName", "Taken", "Locked", "Looped", "Broken", "ReadError"], mg (Str.ofString n) = some (.ref (A n))
  k : ∀ n ∈ ["BadValue", "Mismatch", "Still", "Endless", "TooMany", "NoName", "Taken", "Locked", "Looped", "Broken", "ReadError"], PySem.W.kitOne K (.ref C) (.ref (A n)) = some (n == "BadValue")
  ve : PySem.W.kitOne K (.ref C) (.type "ValueError") = some true
  b_VE : mg "ValueError" = none
  hcl : (PySem.W.clsIn K C).isSome = true
  hga : PySem.W.findIn K (.ref C) "__getattribute__" = some (some (.builtin "BaseException.__getattribute__"))
  hgt : PySem.W.findIn K (.ref C) "__getattr__" = some none
  hsub : PySem.W.subIn K (.ref C) (.type "BaseException") = some true
  ha : PySem.W.findIn K (.ref C) "__class__" = some (some (.builtin "object.__class__"))
  hn : PySem.W.specialIn K (.builtin "object.__class__") "__get__" = some (some (.builtin "getset_descriptor.__get__"))
  htk : PySem.W.takesIn K (.builtin "object.__class__") = some true
  hm : PySem.W.mroIn K C (.type "object") = some true
  xf : XfC K C
/-- isinstance of a caught error that has its dict -/
def kitV (K : PySem.W.Frag) (C : Addr) : V → Option Bool
  | .ref D => PySem.W.kitOne K (.ref C) (.ref D)
  | .ty n => PySem.W.kitOne K (.ref C) (.type n)
  | _ => none
def rIsX (K : PySem.W.Frag) (C a : Addr) (cls : Value) (d : Option Addr) : List V → Hp → VK → Prop := fun xs H Q => ∃ c, xs = [.ref a, c] ∧ cls = .ref C ∧ ∃ dd, d = some dd ∧ (∃ fs, H dd = some (.xd fs)) ∧ ∃ b, kitV K C c = some b ∧ Q (.bl b) H
theorem call_isX {X : Cx} {C S a : Addr} {A : String → Addr} {oe : Obj} {cls : Value} {d : Option Addr} {pn : List (Addr × Obj)} (T : AskT X.K X.mg C S A) (hz : Zc cls d oe) (hf : ∃ vs, oe.data = .fields vs) : CallR (X.suite a ((a, oe) :: pn)) (.builtin "isinstance") (rIsX X.K C a cls d) := fun pins s σ H xs us Q I r h => by
  obtain ⟨c, rfl, rfl, dd, rfl, ⟨fs, hfs⟩, b, hb, q⟩ := h
  obtain ⟨u1, u2, rfl, r1, r2⟩ := vals2 r
  cases r1
  obtain ⟨hget, _⟩ := I.pin (a, oe) (List.mem_append.mpr (.inl List.mem_cons_self))
  obtain ⟨vs, hv⟩ := hf
  obtain ⟨mA, ⟨od, es, ep, ho, hr0⟩, hr⟩ := (show ObjOk X.prog X.w H s.heap dd (.xd fs) from I.hok dd _ hfs)
  have J : PySem.W.InstAt s.heap a oe C (some od) := ⟨hget, hz.1, by unfold PySem.W.notCls; rw [hv] <;> rfl, by rw [hz.2]; exact ho⟩
  have Z := PySem.W.kitx_exc (K := X.K) (C := C) (x := a) (ox := oe) (od := some od) T.hcl T.hga T.hgt T.hsub T.ha T.hn T.htk T.hm
  cases c with
  | ref D =>
    obtain rfl : u2 = Value.ref D := r2
    exact PySem.W.kia_one Z I.kIn J hb (fun z => nomatch z) fun tk => ⟨.bl b, H, I.kept (t' := tk) fun _ _ z => z, rfl, q⟩
  | ty n =>
    obtain rfl : u2 = Value.type n := r2
    exact PySem.W.kia_one Z I.kIn J hb (fun z => nomatch z) fun tk => ⟨.bl b, H, I.kept (t' := tk) fun _ _ z => z, rfl, q⟩
  | _ => cases hb
def rLenA (K : PySem.W.Frag) : List V → Hp → VK → Prop := fun xs H Q => ∃ p, xs = [.ref p] ∧ ∃ ys, itsO (ob K H p) = some ys ∧ Q (.int ys.length) H
/-- a wish of the right number of slots is wish enough -/
theorem takes_len {X : Cx} {W : WX} (t : Takes X W) : Takes X (fun cls d σ H => σ.length = X.N.length → W cls d σ H) := fun u s' ⟨a, B, sI, pins, σ, H, cls, d, e, I, nb, up, sky, na, os, ag, w⟩ =>
  t u s' ⟨a, B, sI, pins, σ, H, cls, d, e, I, nb, up, sky, na, os, ag, w I.len⟩
/-- what the law's asking makes of a call: told, or BadValue and what it names -/
def TAsk (K : PySem.W.Frag) (C : Addr) : (XK → Hp → VK → Prop) → Hp → VK → Prop := fun tl H Q =>
  tl (fun cls d H' => cls = .ref C ∧ ∃ dd y, d = some dd ∧ H' dd = some (.xd [("what", y)]) ∧ ∀ p H'', Same H' H'' → ob K H'' p = some (.tup [.str "BadValue", y]) → Q (.ref p) H'') H
    (fun v H1 => ([V.str "told", v] : List V).length ≤ sizeLine ∧ ∀ p, H1 p = none → K.lookup p = none → Q (.ref p) (upd H1 p (.tup [.str "told", v])))
abbrev sAsked : Stmt := topS 45
theorem scAsked : FnScope ["_law_call", "e", "_law_kinds"] ["_law_call"] (defScope sAsked) := ⟨rfl, rfl, rfl, by decide +kernel, rfl, by decide +kernel, by decide +kernel⟩

theorem asked_gives {X : Cx} {C S : Addr} {A : String → Addr} {g : Addr} {cdg : Value} {q : Str} (Z : Bt X.K X.mg) (B : BvT X.K X.mg C) (T : AskT X.K X.mg C S A) : LamX.GivesTo X ["_law_call", "e", "_law_kinds"] "_law_asked" (defScope sAsked) g cdg (defBody sAsked) "_law_call" q (TAsk X.K C) := by
  intro f c' s H Q tl act hc h
  refine ⟨_, pss_one (ps_try_as (X := (cxOf C8.CX0 X.prog X.w X.K X.mg X.base ["_law_call", "e", "_law_kinds"] "_law_asked" (defScope sAsked) g cdg X.A X.stack s H C8.E0).nox) (i := 1) (c := .ref S)
      (tb := fun W D σ H => ∃ Ech : XK, (∀ cls d σ' H', Ech cls d H' → σ'.length = 3 → W cls d σ' H') ∧ tRet (tTp X.K (tCons (tC (.str "told")) (tCons (fun σZ HZ Q => σZ[0]? = some (some (.ref f)) ∧ HZ c' = some (LamX.CodeO c' q) ∧ tl Ech HZ Q) L2.tNil))) D σ H)
      rfl rfl scAsked.nd rfl rfl ⟨rfl, by decide, .inl T.sky⟩ takes0 (fun W pn xe tk _ => ?_) (fun a oe cls d pn hz hf => (pss_cons (ps_set (i := 2) scAsked.nd rfl (.inl rfl) (show PE (Cx.suite (cxOf C8.CX0 X.prog X.w X.K X.mg X.base ["_law_call", "e", "_law_kinds"] "_law_asked" (defScope sAsked) g cdg X.A X.stack s H C8.E0).nox a ((a, oe) :: pn)) _ (tLs X.K L2.tNil) from pe_ls pa_nil))
      (pss_cons (ps_if (pt_val (pe_callB (call_isX (X := (cxOf C8.CX0 X.prog X.w X.K X.mg X.base ["_law_call", "e", "_law_kinds"] "_law_asked" (defScope sAsked) g cdg X.A X.stack s H C8.E0).nox) (a := a) (pn := pn) T hz hf) (by rfl) Z.b_isinstance (by decide +kernel) (pa_cons (pv 1) (pa_cons (pe_glob (v := .ref (A "BadValue")) (by rfl) (T.g "BadValue" (by decide)) rfl) pa_nil)))) (pss_one (ps_expr (show PE (Cx.suite (cxOf C8.CX0 X.prog X.w X.K X.mg X.base ["_law_call", "e", "_law_kinds"] "_law_asked" (defScope sAsked) g cdg X.A X.stack s H C8.E0).nox a ((a, oe) :: pn)) _ (tBM X.K "list" rAppend (tVar 2) (tCons (tTp X.K (tCons (tC (.str "BadValue")) (tCons (tXf a cls d C "what" (tVar 1)) L2.tNil))) L2.tNil)) from pe_bm PySem.F.plainAttrs_list PySem.F.slot_list_append PySem.F.type_list_append mt_append (pv 2) (pa_cons (pe_tp (pa_cons pe_str (pa_cons (pe_xf (X := (cxOf C8.CX0 X.prog X.w X.K X.mg X.base ["_law_call", "e", "_law_kinds"] "_law_asked" (defScope sAsked) g cdg X.A X.stack s H C8.E0).nox) (a := a) (pn := pn) T.xf B.no hz hf (pv 1)) pa_nil))) pa_nil)))) pss_nil)
      (pss_cons (ps_if (pt_val (pe_callB (call_isX (X := (cxOf C8.CX0 X.prog X.w X.K X.mg X.base ["_law_call", "e", "_law_kinds"] "_law_asked" (defScope sAsked) g cdg X.A X.stack s H C8.E0).nox) (a := a) (pn := pn) T hz hf) (by rfl) Z.b_isinstance (by decide +kernel) (pa_cons (pv 1) (pa_cons (pe_glob (v := .ref (A "Mismatch")) (by rfl) (T.g "Mismatch" (by decide)) rfl) pa_nil)))) (pss_one ps_never) pss_nil)
      (pss_cons (ps_if (pt_val (pe_callB (call_isX (X := (cxOf C8.CX0 X.prog X.w X.K X.mg X.base ["_law_call", "e", "_law_kinds"] "_law_asked" (defScope sAsked) g cdg X.A X.stack s H C8.E0).nox) (a := a) (pn := pn) T hz hf) (by rfl) Z.b_isinstance (by decide +kernel) (pa_cons (pv 1) (pa_cons (pe_glob (v := .ref (A "Still")) (by rfl) (T.g "Still" (by decide)) rfl) pa_nil)))) (pss_one ps_never) pss_nil)
      (pss_cons (ps_if (pt_val (pe_callB (call_isX (X := (cxOf C8.CX0 X.prog X.w X.K X.mg X.base ["_law_call", "e", "_law_kinds"] "_law_asked" (defScope sAsked) g cdg X.A X.stack s H C8.E0).nox) (a := a) (pn := pn) T hz hf) (by rfl) Z.b_isinstance (by decide +kernel) (pa_cons (pv 1) (pa_cons (pe_glob (v := .ref (A "Endless")) (by rfl) (T.g "Endless" (by decide)) rfl) pa_nil)))) (pss_one ps_never) pss_nil)
      (pss_cons (ps_if (pt_val (pe_callB (call_isX (X := (cxOf C8.CX0 X.prog X.w X.K X.mg X.base ["_law_call", "e", "_law_kinds"] "_law_asked" (defScope sAsked) g cdg X.A X.stack s H C8.E0).nox) (a := a) (pn := pn) T hz hf) (by rfl) Z.b_isinstance (by decide +kernel) (pa_cons (pv 1) (pa_cons (pe_glob (v := .ref (A "TooMany")) (by rfl) (T.g "TooMany" (by decide)) rfl) pa_nil)))) (pss_one ps_never) pss_nil)
      (pss_cons (ps_if (pt_val (pe_callB (call_isX (X := (cxOf C8.CX0 X.prog X.w X.K X.mg X.base ["_law_call", "e", "_law_kinds"] "_law_asked" (defScope sAsked) g cdg X.A X.stack s H C8.E0).nox) (a := a) (pn := pn) T hz hf) (by rfl) Z.b_isinstance (by decide +kernel) (pa_cons (pv 1) (pa_cons (pe_glob (v := .ref (A "NoName")) (by rfl) (T.g "NoName" (by decide)) rfl) pa_nil)))) (pss_one ps_never) pss_nil)
      (pss_cons (ps_if (pt_val (pe_callB (call_isX (X := (cxOf C8.CX0 X.prog X.w X.K X.mg X.base ["_law_call", "e", "_law_kinds"] "_law_asked" (defScope sAsked) g cdg X.A X.stack s H C8.E0).nox) (a := a) (pn := pn) T hz hf) (by rfl) Z.b_isinstance (by decide +kernel) (pa_cons (pv 1) (pa_cons (pe_glob (v := .ref (A "Taken")) (by rfl) (T.g "Taken" (by decide)) rfl) pa_nil)))) (pss_one ps_never) pss_nil)
      (pss_cons (ps_if (pt_val (pe_callB (call_isX (X := (cxOf C8.CX0 X.prog X.w X.K X.mg X.base ["_law_call", "e", "_law_kinds"] "_law_asked" (defScope sAsked) g cdg X.A X.stack s H C8.E0).nox) (a := a) (pn := pn) T hz hf) (by rfl) Z.b_isinstance (by decide +kernel) (pa_cons (pv 1) (pa_cons (pe_glob (v := .ref (A "Locked")) (by rfl) (T.g "Locked" (by decide)) rfl) pa_nil)))) (pss_one ps_never) pss_nil)
      (pss_cons (ps_if (pt_val (pe_callB (call_isX (X := (cxOf C8.CX0 X.prog X.w X.K X.mg X.base ["_law_call", "e", "_law_kinds"] "_law_asked" (defScope sAsked) g cdg X.A X.stack s H C8.E0).nox) (a := a) (pn := pn) T hz hf) (by rfl) Z.b_isinstance (by decide +kernel) (pa_cons (pv 1) (pa_cons (pe_glob (v := .ref (A "Looped")) (by rfl) (T.g "Looped" (by decide)) rfl) pa_nil)))) (pss_one ps_never) pss_nil)
      (pss_cons (ps_if (pt_val (pe_callB (call_isX (X := (cxOf C8.CX0 X.prog X.w X.K X.mg X.base ["_law_call", "e", "_law_kinds"] "_law_asked" (defScope sAsked) g cdg X.A X.stack s H C8.E0).nox) (a := a) (pn := pn) T hz hf) (by rfl) Z.b_isinstance (by decide +kernel) (pa_cons (pv 1) (pa_cons (pe_glob (v := .ref (A "Broken")) (by rfl) (T.g "Broken" (by decide)) rfl) pa_nil)))) (pss_one ps_never) pss_nil)
      (pss_cons (ps_if (pt_val (pe_callB (call_isX (X := (cxOf C8.CX0 X.prog X.w X.K X.mg X.base ["_law_call", "e", "_law_kinds"] "_law_asked" (defScope sAsked) g cdg X.A X.stack s H C8.E0).nox) (a := a) (pn := pn) T hz hf) (by rfl) Z.b_isinstance (by decide +kernel) (pa_cons (pv 1) (pa_cons (pe_glob (v := .ref (A "ReadError")) (by rfl) (T.g "ReadError" (by decide)) rfl) pa_nil)))) (pss_one ps_never) pss_nil)
      (pss_cons (ps_if (PW.pt (pw_or (pt_cmpR op_ne (pe_callB (show CallR (Cx.suite (cxOf C8.CX0 X.prog X.w X.K X.mg X.base ["_law_call", "e", "_law_kinds"] "_law_asked" (defScope sAsked) g cdg X.A X.stack s H C8.E0).nox a ((a, oe) :: pn)) (.builtin "len") (rLenA X.K) from call_lenA) (by rfl) Z.b_len PySem.boot_len (pa_cons (pv 2) pa_nil)) pe_int (nomark _)) (pw_or1 (pt_not (pt_val (pe_callB (call_isX (X := (cxOf C8.CX0 X.prog X.w X.K X.mg X.base ["_law_call", "e", "_law_kinds"] "_law_asked" (defScope sAsked) g cdg X.A X.stack s H C8.E0).nox) (a := a) (pn := pn) T hz hf) (by rfl) Z.b_isinstance (by decide +kernel) (pa_cons (pv 1) (pa_cons (pe_bltn (v := .ty "ValueError") (by rfl) T.b_VE (by decide +kernel) rfl) pa_nil)))))))) (pss_one ps_never) pss_nil)
      (pss_one (ps_ret (pe_ix (show IxR (Cx.suite (cxOf C8.CX0 X.prog X.w X.K X.mg X.base ["_law_call", "e", "_law_kinds"] "_law_asked" (defScope sAsked) g cdg X.A X.stack s H C8.E0).nox a ((a, oe) :: pn)) (rIxA X.K) from ix_any) (pv 2) pe_int (fun _ _ => rfl))))))))))))))))))), ?_⟩
  · refine ⟨fun pins s' σ H' D I h' => ?_⟩
    obtain ⟨Ech, hW, h2⟩ := h'
    exact (pss_one (ps_ret (pe_tp (pa_cons pe_str (pa_cons (act _ pn xe Ech _ _ (takes_len tk) (fun cls d σ' H' e l => hW cls d σ' H' e l)) pa_nil))))).run pins s' σ H' D I h2
  · refine ⟨fun cls d H' => cls = .ref C ∧ ∃ dd y, d = some dd ∧ H' dd = some (.xd [("what", y)]) ∧ ∀ p H'', Same H' H'' → ob X.K H'' p = some (.tup [.str "BadValue", y]) → Q (.ref p) H'', fun cls d σ' H' e l => ?_, rfl, hc, h⟩
    obtain ⟨rfl, dd, y, rfl, hd, k⟩ := e
    obtain ⟨x0, x1, x2, rfl⟩ : ∃ x0 x1 x2, σ' = [x0, x1, x2] := by
      match σ', l with
      | [x0, x1, x2], _ => exact ⟨x0, x1, x2, rfl⟩
    refine ⟨true, T.exm, fun _ a ha => ?_, fun z => nomatch z⟩
    refine ⟨Nat.zero_le _, fun l hl kl => ?_⟩
    have nl : dd ≠ l := ne_of_none hd hl
    have hd1 : upd H' l (.lst []) dd = some (.xd [("what", y)]) := by rw [upd_ne nl]; exact hd
    refine ⟨_, rfl, .ref (A "BadValue"), rfl, rfl, dd, rfl, ⟨_, hd1⟩, true, (T.k "BadValue" (by decide)).trans rfl, true, rfl, iteT ?_⟩
    refine ⟨_, rfl, .inl ⟨rfl, _, .of upd_same⟩, _, rfl, rfl, rfl, dd, _, y, rfl, hd1, rfl, by rw [sizeLine_eq]; show 2 ≤ 16777216; decide, fun p hp kp => ?_⟩
    have npl : p ≠ l := by rintro rfl; rw [upd_same] at hp; cases hp
    have npd : dd ≠ p := ne_of_none hd1 hp
    refine ⟨l, [], .ref p, rfl, rfl, by rw [upd_ne (Ne.symm npl), upd_same], by rw [sizeLine_eq]; decide, ?_⟩
    have hp0 : H' p = none := by rw [upd_ne npl] at hp; exact hp
    have hd3 : upd (upd (upd H' l (.lst [])) p (.tup [.str "BadValue", y])) l (.lst ([] ++ [.ref p])) dd = some (.xd [("what", y)]) := by rw [upd_ne nl, upd_ne npd]; exact hd1
    have s3 : Same H' (upd (upd (upd H' l (.lst [])) p (.tup [.str "BadValue", y])) l (.lst ([] ++ [.ref p]))) := fun b o e => by
      rw [upd_ne (ne_of_none e hl), upd_ne (ne_of_none e hp0), upd_ne (ne_of_none e hl)]
      exact e
    have ol : ob X.K (upd (upd (upd H' l (.lst [])) p (.tup [.str "BadValue", y])) l (.lst ([] ++ [.ref p]))) l = some (.lst [.ref p]) := ob_new kl
    have op : ob X.K (upd (upd (upd H' l (.lst [])) p (.tup [.str "BadValue", y])) l (.lst ([] ++ [.ref p]))) p = some (.tup [.str "BadValue", y]) := by rw [ob_none kp, upd_ne npl, upd_same]
    generalize upd (upd (upd H' l (.lst [])) p (.tup [.str "BadValue", y])) l (.lst ([] ++ [.ref p])) = H3 at hd3 s3 ol op ⊢
    refine ⟨_, rfl, .ref (A "Mismatch"), rfl, rfl, dd, rfl, ⟨_, hd3⟩, false, (T.k "Mismatch" (by decide)).trans rfl, false, rfl, iteF ?_⟩
    refine ⟨_, rfl, .ref (A "Still"), rfl, rfl, dd, rfl, ⟨_, hd3⟩, false, (T.k "Still" (by decide)).trans rfl, false, rfl, iteF ?_⟩
    refine ⟨_, rfl, .ref (A "Endless"), rfl, rfl, dd, rfl, ⟨_, hd3⟩, false, (T.k "Endless" (by decide)).trans rfl, false, rfl, iteF ?_⟩
    refine ⟨_, rfl, .ref (A "TooMany"), rfl, rfl, dd, rfl, ⟨_, hd3⟩, false, (T.k "TooMany" (by decide)).trans rfl, false, rfl, iteF ?_⟩
    refine ⟨_, rfl, .ref (A "NoName"), rfl, rfl, dd, rfl, ⟨_, hd3⟩, false, (T.k "NoName" (by decide)).trans rfl, false, rfl, iteF ?_⟩
    refine ⟨_, rfl, .ref (A "Taken"), rfl, rfl, dd, rfl, ⟨_, hd3⟩, false, (T.k "Taken" (by decide)).trans rfl, false, rfl, iteF ?_⟩
    refine ⟨_, rfl, .ref (A "Locked"), rfl, rfl, dd, rfl, ⟨_, hd3⟩, false, (T.k "Locked" (by decide)).trans rfl, false, rfl, iteF ?_⟩
    refine ⟨_, rfl, .ref (A "Looped"), rfl, rfl, dd, rfl, ⟨_, hd3⟩, false, (T.k "Looped" (by decide)).trans rfl, false, rfl, iteF ?_⟩
    refine ⟨_, rfl, .ref (A "Broken"), rfl, rfl, dd, rfl, ⟨_, hd3⟩, false, (T.k "Broken" (by decide)).trans rfl, false, rfl, iteF ?_⟩
    refine ⟨_, rfl, .ref (A "ReadError"), rfl, rfl, dd, rfl, ⟨_, hd3⟩, false, (T.k "ReadError" (by decide)).trans rfl, false, rfl, iteF ?_⟩
    refine ⟨_, rfl, l, rfl, _, (by rw [ol]; rfl), rfl, false, rfl, iteF ?_⟩
    refine ⟨_, rfl, .ty "ValueError", rfl, rfl, dd, rfl, ⟨_, hd3⟩, true, T.ve, true, rfl, iteF ?_⟩
    exact ⟨_, rfl, l, 0, rfl, rfl, [.ref p], (by rw [ol]; rfl), .ref p, rfl, k p H3 s3 op⟩
end My

namespace My
open PySem PySem.Spec PyProof.Rows L2
section
variable {P : Program} {w : World} {K : PySem.W.Frag} {mg : Str → Option Value} {base : Heap}
/-! ### the tables, while the draws go on -/
theorem tabs_kp {T : List (Addr × Str)} {H H' : Hp} {s : Addr} {ys : List V} (e : Kp s H H') (hs : H s = some (.lst ys)) (t : LamX.Tabs T H) : LamX.Tabs T H' := fun p hp => by
  obtain ⟨ps, h1, h2, h3⟩ := t p hp
  refine ⟨ps, e _ _ (by rintro z; rw [z, hs] at h1; cases h1) h1, h2, fun pos cv hc => ?_⟩
  obtain ⟨c, e1, e2⟩ := h3 pos cv hc
  exact ⟨c, e1, e _ _ (by rintro z; rw [z, hs] at e2; unfold LamX.CodeO at e2; cases e2) e2⟩
theorem tabs_same {T : List (Addr × Str)} {H H' : Hp} (e : Same H H') (t : LamX.Tabs T H) : LamX.Tabs T H' := t.ext e
/-- all but the store and the tables stands -/
def Bg (s : Addr) (H H' : Hp) : Prop := ∀ b o, b ≠ s → (∀ ps, o ≠ .tbl ps) → H b = some o → H' b = some o
theorem Bg.refl (s : Addr) (H : Hp) : Bg s H H := fun _ _ _ _ h => h
theorem Bg.trans {s : Addr} {H H1 H2 : Hp} (a : Bg s H H1) (b : Bg s H1 H2) : Bg s H H2 := fun c o n m h => b c o n m (a c o n m h)
theorem Bg.kp {s : Addr} {H H1 : Hp} (a : Kp s H H1) : Bg s H H1 := fun c o n _ h => a c o n h
theorem Bg.same {s : Addr} {H H1 : Hp} (a : Same H H1) : Bg s H H1 := fun c o _ _ h => a c o h
theorem Bg.ext {s : Addr} {H H1 : Hp} (a : LamX.ExtN H H1) : Bg s H H1 := fun c o _ m h => a c o h m
theorem ob_bg {H H' : Hp} {s a : Addr} {ys xs : List V} (e : Bg s H H') (hs : H s = some (.lst ys)) (h : ob K H a = some (.tup xs)) : ob K H' a = some (.tup xs) := by
  unfold ob at h ⊢
  split
  · rename_i o q
    rw [q] at h
    exact h
  · rename_i q
    rw [q] at h
    exact e _ _ (by rintro rfl; rw [hs] at h; cases h) (fun ps z => by cases z) h
theorem Fq.bg {H H' : Hp} {s a : Addr} {n : Nat} {ys : List V} {q : Qt} (h : Fq K H n a q) (e : Bg s H H') (hs : H s = some (.lst ys)) : Fq K H' n a q := ⟨ob_bg e hs h.o, h.nf, h.sz⟩
theorem Sto.ext {H H' : Hp} {s : Addr} (h : Sto K H s) (e : LamX.ExtN H H') : Sto K H' s := by
  obtain ⟨sc, ns, i, b, c, d, x, f, h1, h2, h3⟩ := h
  exact ⟨sc, ns, i, b, c, d, x, f, e _ _ h1 (fun ps z => by cases z), e _ _ h2 (fun ps z => by cases z), h3⟩
theorem ob_ext {H H' : Hp} {a : Addr} {z : HO} (e : LamX.ExtN H H') (n : ∀ ps, z ≠ .tbl ps) (h : ob K H a = some z) : ob K H' a = some z := by
  unfold ob at h ⊢
  split
  · rename_i o q
    rw [q] at h
    exact h
  · rename_i q
    rw [q] at h
    exact e _ _ h n
theorem tyO_ntbl {z : HO} (h : (tyO (some z)).isSome) : ∀ ps, z ≠ .tbl ps := fun ps e => by subst e; cases h
theorem tyS_ext {H H' : Hp} {v : V} (e : LamX.ExtN H H') (h : (tyN K H v).isSome) : (tyN K H' v).isSome := by
  cases v with
  | ref a =>
    cases hz : ob K H a with
    | none => rw [tyN_ref, hz] at h; cases h
    | some z =>
      rw [tyN_ref, hz] at h
      rw [tyN_ref, ob_ext e (tyO_ntbl h) hz]
      exact h
  | _ => exact h
theorem Gd.ext {H H' : Hp} {v : V} (e : LamX.ExtN H H') (h : Gd K H v) : Gd K H' v := by
  cases v with
  | ref a =>
    cases hz : ob K H a with
    | none =>
      have := h.ty.1
      rw [tyN_ref, hz] at this
      cases this
    | some z =>
      have nz : ∀ ps, z ≠ .tbl ps := tyO_ntbl (by have := h.ty.1; rw [tyN_ref, hz] at this; exact this)
      have hz' := ob_ext e nz hz
      refine ⟨⟨tyS_ext e h.ty.1, fun b xs ev o x hx => ?_⟩, ?_⟩
      · cases ev
        rw [hz'] at o
        exact tyS_ext e (h.ty.2 a xs rfl (hz.trans o) x hx)
      · have e2 : frOk K H' (.ref a) = frOk K H (.ref a) := by simp only [frOk, hz, hz']
        rw [e2]
        exact h.no
  | _ => exact ⟨⟨h.ty.1, fun _ _ e => by cases e⟩, h.no⟩
theorem eqv_tup {H : Hp} {a b : Addr} {xs : List V} (oa : ob K H a = some (.tup xs)) (ob' : ob K H b = some (.tup xs)) (hs : xs.all scv = true) (hl : xs.length ≤ 1000) : Eqv K H 1 (.ref a) (.ref b) := by
  refine .inr ⟨a, b, xs, xs, rfl, rfl, .inl ⟨oa, ob'⟩, rfl, hl, fun i x y hx hy => ?_⟩
  rw [hx] at hy
  cases hy
  exact ⟨rfl, List.all_eq_true.mp hs x (List.mem_of_getElem? hx)⟩
theorem itsO_of {H : Hp} {a : Addr} {xs : List V} (h : ob K H a = some (.tup xs)) : itsO (ob K H a) = some xs := by rw [h]; rfl
theorem itsO_ofL {H : Hp} {a : Addr} {xs : List V} (h : ob K H a = some (.lst xs)) : itsO (ob K H a) = some xs := by rw [h]; rfl
theorem sz2 {n : Nat} (h : n ≤ 100) : n ≤ sizeLine := by rw [sizeLine_eq]; omega
def AllF (K : PySem.W.Frag) (H : Hp) (xs : List V) : Prop := ∀ x ∈ xs, ∃ a q, x = .ref a ∧ Fq K H 3000 a q
theorem AllF.bg {H H' : Hp} {s : Addr} {xs ys : List V} (h : AllF K H xs) (e : Bg s H H') (hs : H s = some (.lst ys)) : AllF K H' xs := fun x hx => by
  obtain ⟨a, q, e1, hq⟩ := h x hx
  exact ⟨a, q, e1, hq.bg e hs⟩
structure LawS (K : PySem.W.Frag) (T : List (Addr × Str)) (H : Hp) (s : Addr) : Prop where
  st : Sto K H s
  tb : LamX.Tabs T H
def OutI (K : PySem.W.Frag) (T : List (Addr × Str)) (sr l1 : Addr) (xs : List V) (v0 v1 v2 v3 v4 v5 : Option V) (_ : Nat) (σ : L2.St) (H' : Hp) : Prop := ∃ x6 x7 x8, σ = [v0, v1, v2, v3, v4, v5, x6, x7, x8] ∧ LawS K T H' sr ∧ H' l1 = some (.lst xs) ∧ AllF K H' xs
def InnI (K : PySem.W.Frag) (T : List (Addr × Str)) (sr l1 l2 : Addr) (xs ys : List V) (v0 v1 v2 v3 v4 v5 v6 : Option V) (_ : Nat) (σ : L2.St) (H' : Hp) : Prop := ∃ x7 x8, σ = [v0, v1, v2, v3, v4, v5, v6, x7, x8] ∧ LawS K T H' sr ∧ H' l1 = some (.lst xs) ∧ AllF K H' xs ∧ H' l2 = some (.lst ys)
theorem LawS.same {T : List (Addr × Str)} {H H' : Hp} {s : Addr} (h : LawS K T H s) (e : Same H H') : LawS K T H' s := ⟨h.st.same e, tabs_same e h.tb⟩
theorem LawS.kp {T : List (Addr × Str)} {H H' : Hp} {s : Addr} (h : LawS K T H s) (e : Kp s H H') (st : Sto K H' s) : LawS K T H' s := by
  obtain ⟨ys, hy⟩ := h.st.at
  exact ⟨st, tabs_kp e hy h.tb⟩
end
/-! ### a captured name that holds one of the four -/
def tCallX (i : Nat) (S : Addr → Prop) (sp : Sp) (E : XK) (t : TA) : TE := fun σ H Q => ∃ f, σ[i]? = some (some (.ref f)) ∧ S f ∧ t σ H fun vs H1 => sp (vs ++ []) H1 Q E
section
variable {X : Cx}
theorem pe_callX {k i : Nat} {S : Addr → Prop} {sp : Sp} {x : Str} {p pos : Pos} {e : Expr} {es : List Expr} {t : TA} {W : WX} (E : XK) (A : ∀ f, S f → ∃ fd ps, FnOk X.prog X.w X.K X.mg X.base (L2.CX X.prog X.w) k f fd ps sp ∧ PySem.W.keepIn X.K (.ref f) = true ∧ Binds X.K fd ps []) (hr : Room k X.A) (hN : X.N[i]? = some x) (hv : Vis X.env.scope x)
    (tk : Takes X W) (hW : ∀ cls d σ H, E cls d H → W cls d σ H) (ha : PA X (e :: es) t) (hdb : (x == ("__debug__" : Str)) = false := by decide) (hcd : (x == ("__classdict__" : Str)) = false := by decide)
    (he : starEach (e :: es) X.env = (false, eval e X.env) :: starEach es X.env := by rfl) (hpl : (backTo pos (starEach es X.env)).any (·.1) = false := by rfl) : PE X (.Call (.Name x p) (e :: es) [] pos) (tCallX i S sp E t) := ⟨fun pins s σ H Q I h => by
  obtain ⟨f, hs, hS, ht⟩ := h
  obtain ⟨fd, ps, F, hk, hb⟩ := A f hS
  exact (pe_callL (i := i) (f := f) (sp := sp) (dvs := []) (E := E) F hr hN hv hk hb .nil (passes_call tk hW) ha hdb hcd he hpl).run pins s σ H Q I ⟨hs, ht⟩⟩
end
abbrev sLaw : Stmt := topS 49
theorem scLaw : FnScope ["_law_script", "_law_store_here", "_law_first", "_law_turned", "_law_steps", "_law_deep", "_law_value_here", "_law_bad", "_law_call"] ["_law_script"] (defScope sLaw) := ⟨rfl, rfl, rfl, by decide +kernel, rfl, by decide +kernel, by decide +kernel⟩
section
variable {P : Program} {w : World} {K : PySem.W.Frag} {mg : Str → Option Value} {base : Heap}
def qLam : Str := ("law" ++ ".<locals>.") ++ "<lambda>"
def isFour (mg : Str → Option Value) (f : Addr) : Prop := ∃ n ∈ (["floor_of", "part_of", "offset_of", "distance_of"] : List Str), mg n = some (.ref f)
def spLaw (K : PySem.W.Frag) (Pt : Addr) : Sp := fun vs H Q _ => ∃ (a : Addr) (ns : List Int), vs = [.ref a] ∧ SqL K H a (ns.map V.int) ∧ H Pt = some (.tbl #[]) ∧ ∀ H', Q (.bl true) H'

structure Four (mg : Str → Option Value) (f1 f2 f3 f4 : Addr) : Prop where
  m1 : mg "floor_of" = some (.ref f1)
  m2 : mg "part_of" = some (.ref f2)
  m3 : mg "offset_of" = some (.ref f3)
  m4 : mg "distance_of" = some (.ref f4)
/-- the asking def as it stands -/
structure AskD (K : PySem.W.Frag) (mg : Str → Option Value) (g : Addr) (oc : Value) (od : Option Addr) (dV kV doc pm : Value) (an : Option Addr) (cdv ct : Value) (osl : Array (Option Value)) : Prop where
  m : mg "_law_asked" = some (.ref g)
  kp : PySem.W.keepIn K (.ref g) = true
  lk : K.lookup g = some ⟨oc, od, .func (PySem.W.fnOf "_law_asked" "_law_asked" (defArgs sAsked) (defBody sAsked) (defScope sAsked) dV kV doc pm an cdv ct), osl⟩
  cd : PySem.W.codeIn K cdv "_law_asked" = true
  b : Binds K (PySem.W.fnOf "_law_asked" "_law_asked" (defArgs sAsked) (defBody sAsked) (defScope sAsked) dV kV doc pm an cdv ct) ["_law_call"] []
theorem ok_law {C S fa g c Pt f1 f2 f3 f4 : Addr} {A : String → Addr} {oc dV kV doc pm cdv ct oc' dV' kV' doc' pm' ct' : Value} {od an od' an' : Option Addr} {osl osl' : Array (Option Value)} (T : Bt K mg) (B : BvT K mg C) (AT : AskT K mg C S A) (AS : AskD K mg g oc od dV kV doc pm an cdv ct osl) (F4 : Four mg f1 f2 f3 f4)
    (lkL : K.lookup fa = some ⟨oc', od', .func (PySem.W.fnOf "law" "law" (defArgs sLaw) (defBody sLaw) (defScope sLaw) dV' kV' doc' pm' an' (.ref c) ct'), osl'⟩) (cdL : PySem.W.codeIn K (.ref c) "law" = true) (TB : LamX.TabB base mg c Pt)
    (HX : ∀ f, isFour mg f → ∃ fd ps, FnOk P w K mg base (L2.CX P w) 4 f fd ps (spBadUn K C) ∧ PySem.W.keepIn K (.ref f) = true ∧ Binds K fd ps [])
    (d__law_store : Kn P w K mg base 1 "_law_store" ["_law_script"] (spStore K)) (d__law_value : Kn P w K mg base 5 "_law_value" ["_law_store_here"] (spDFrac K 140)) (d__law_pick : Kn P w K mg base 3 "_law_pick" ["_law_store_here", "_law_row"] (spPick K)) (d__law_take : Kn P w K mg base 2 "_law_take" ["_law_store_here", "_law_many"] (spTake K)) (d_plus : Kn P w K mg base 3 "plus" ["left", "right"] (spBin K sum2)) (d__law_plus : Kn P w K mg base 3 "_law_plus" ["_law_left", "_law_right"] (spBin K sum2)) (d__law_same : Kn P w K mg base 3 "_law_same" ["_law_told", "_law_due"] (spSame K 2)) (d__law_part : Kn P w K mg base 3 "_law_part" ["_law_value_here"] (spUn K fun q => (q.1 % q.2, q.2))) (d__law_offset : Kn P w K mg base 3 "_law_offset" ["_law_value_here"] (spUn K off)) (d__law_holds : Kn P w K mg base 6 "_law_holds" ["_law_value_here"] (spHolds K)) (d__law_bad_frac : Kn P w K mg base 4 "_law_bad_frac" ["_law_store_here"] (spBadFrac K)) : FnOk P w K mg base CX0 7 fa (PySem.W.fnOf "law" "law" (defArgs sLaw) (defBody sLaw) (defScope sLaw) dV' kV' doc' pm' an' (.ref c) ct') ["_law_script"] (spLaw K Pt) := by
  refine fn_of lkL cdL scLaw (fun vs H Q E h => ?_) fun A outer s H vs Q E hr h => ?_
  · obtain ⟨a, ns, rfl, _⟩ := h
    rfl
  obtain ⟨a, ns, rfl, hS, hP, k⟩ := h
  refine ⟨_, PSs.nox (pss_cons (ps_set (i := 1) scLaw.nd rfl (.inl rfl) (pe_kn d__law_store hr (by rfl) (pa_cons (pv 0) pa_nil)))
      (pss_cons (ps_set (i := 2) scLaw.nd rfl (.inl rfl) (pe_kn d__law_value hr (by rfl) (pa_cons (pv 1) pa_nil)))
      (pss_cons (ps_set (i := 3) scLaw.nd rfl (.inl rfl) (pe_tp (pa_cons (pe_un un_neg (pe_ix ix_any (pv 2) pe_int (fun _ _ => rfl))) (pa_cons (pe_ix ix_any (pv 2) pe_int (fun _ _ => rfl)) pa_nil))))
      (pss_cons (ps_set (i := 4) scLaw.nd rfl (.inl rfl) (pe_ls (pa_cons (pe_tp (pa_cons pe_int (pa_cons (pe_op op_pow pe_int pe_int) pa_nil))) (pa_cons (pe_tp (pa_cons (pe_kn d__law_pick hr (by rfl) (pa_cons (pv 1) (pa_cons (pe_ls (pa_cons pe_int (pa_cons (pe_un un_neg pe_int) pa_nil))) pa_nil))) (pa_cons (pe_op op_add (pe_op op_add (pe_op op_pow pe_int pe_int) pe_int) (pe_kn d__law_take hr (by rfl) (pa_cons (pv 1) (pa_cons pe_int pa_nil)))) pa_nil))) pa_nil))))
      (pss_cons (ps_set (i := 5) scLaw.nd rfl (.inl rfl) (pe_kn d_plus hr (by rfl) (pa_cons (pe_kn d_plus hr (by rfl) (pa_cons (pv 2) (pa_cons (pe_ix ix_any (pv 4) pe_int (fun _ _ => rfl)) pa_nil))) (pa_cons (pe_ix ix_any (pv 4) pe_int (fun _ _ => rfl)) pa_nil))))
      (pss_cons (ps_if (pt_not (pt_val (pe_kn d__law_same hr (by rfl) (pa_cons (pv 5) (pa_cons (pe_kn d__law_plus hr (by rfl) (pa_cons (pe_kn d__law_plus hr (by rfl) (pa_cons (pv 2) (pa_cons (pe_ix ix_any (pv 4) pe_int (fun _ _ => rfl)) pa_nil))) (pa_cons (pe_ix ix_any (pv 4) pe_int (fun _ _ => rfl)) pa_nil))) pa_nil))))) (pss_one (ps_ret pe_bl)) pss_nil)
      (pss_cons (ps_for PassesOwn.never rfl (pi_list (pe_ls (pa_cons (pv 2) (pa_cons (pe_kn d__law_value hr (by rfl) (pa_cons (pv 1) pa_nil)) (pa_cons (pv 3) (pa_cons (pv 2) (pa_cons (pe_kn d__law_part hr (by rfl) (pa_cons (pv 2) pa_nil)) (pa_cons (pe_kn d__law_offset hr (by rfl) (pa_cons (pv 3) pa_nil)) (pa_cons (pv 5) pa_nil))))))))) (pg_name (i := 6) scLaw.nd rfl (.inl rfl)) (pss_cons (ps_if (pt_not (pt_val (pe_kn d__law_holds hr (by rfl) (pa_cons (pv 6) pa_nil)))) (pss_one (ps_ret pe_bl)) pss_nil)
      (pss_one (ps_for PassesOwn.never rfl (pi_list (pe_ls (pa_cons (pe_glob (v := .ref f1) (by rfl) F4.m1 rfl) (pa_cons (pe_glob (v := .ref f2) (by rfl) F4.m2 rfl) (pa_cons (pe_glob (v := .ref f3) (by rfl) F4.m3 rfl) (pa_cons (pe_glob (v := .ref f4) (by rfl) F4.m4 rfl) pa_nil)))))) (pg_name (i := 8) scLaw.nd rfl (.inr rfl)) (pss_cons (ps_set (i := 7) scLaw.nd rfl (.inr rfl) (pe_kn d__law_bad_frac hr (by rfl) (pa_cons (pv 1) pa_nil)))
      (pss_one (ps_if (pt_not (pt_val (pe_kn d__law_same hr (by rfl) (pa_cons (LamX.pe_lamcall (T := [(Pt, qLam)]) (TT := TAsk K C) (t := fun E => tCallX 8 (isFour mg) (spBadUn K C) E (tCons (tVar 7) L2.tNil)) (by rfl) AS.m AS.kp AS.lk AS.cd AS.b scAsked rfl (.inl rfl) (asked_gives T B AT) TB rfl (List.mem_cons_self ..) (fun p hp _ => by simp only [List.mem_cons, List.not_mem_nil, or_false] at hp; subst hp; rfl) hr (LamX.lamS_by (by show LamX.lamSB (defScope sLaw) _ = true; decide +kernel)) rfl (fun _ _ _ _ _ => rfl) (fun A outer s H E f c' hr' => pe_callX E (fun f hf => HX f hf) hr' (by rfl) (.inr (.inr rfl)) (takes_of rfl rfl rfl rfl) (fun _ _ _ _ h => h) (pa_cons (pv 7) pa_nil))) (pa_cons (pe_tp (pa_cons pe_str (pa_cons pe_str pa_nil))) pa_nil))))) (pss_one (ps_ret pe_bl)) pss_nil)))))))
      (pss_one (ps_ret pe_bl))))))))), ?_⟩
  have TBL : ∀ H1, Same H H1 → LamX.Tabs [(Pt, qLam)] H1 := fun H1 s1 p hp => by
    simp only [List.mem_cons, List.not_mem_nil, or_false] at hp
    subst hp
    exact LamX.TabS.nil (s1 _ _ hP)
  simp only [cx_K]
  -- the store, the first value
  refine ⟨_, rfl, a, ns, rfl, hS, fun sr H1 s1 st1 => ⟨_, rfl, sr, rfl, st1, fun a1 q1 H2 hq1 kp2 st2 => ?_⟩⟩
  have L2' : LawS K [(Pt, qLam)] H2 sr := (LawS.mk st1 (TBL H1 s1)).kp kp2 st2
  clear st1 s1 kp2 hP hS
  -- it turned about
  refine ⟨_, rfl, a1, 0, rfl, rfl, _, itsO_of hq1.o, _, atI_0 _ _, _, rfl, _, rfl, a1, 1, rfl, rfl, _, itsO_of hq1.o, _, atI_1 _ _ _, sz2 (by show 2 ≤ 100; decide), fun a2 h2 k2 => ?_⟩
  have sT := Same.new h2 (.tup [.int (-q1.1), .int q1.2])
  have hq2 : Fq K (upd H2 a2 (.tup [.int (-q1.1), .int q1.2])) 140 a2 (-q1.1, q1.2) := ⟨ob_new k2, nf_neg hq1.nf, by show (-q1.1).natAbs < 2 ^ 140; rw [Int.natAbs_neg]; exact hq1.sz.1, hq1.sz.2⟩
  have hq1' := hq1.same sT
  have L3 := L2'.same sT
  have st3 := L3.st
  generalize upd H2 a2 (.tup [.int (-q1.1), .int q1.2]) = H3 at sT hq2 hq1' L3 st3 ⊢
  clear L2' hq1 sT h2 st2
  -- the steps
  refine ⟨10, 39, rfl, rfl, ⟨by decide, by decide, by decide⟩, sz2 (by show 2 ≤ 100; decide), fun p3 h3 k3 => ?_⟩
  have sA := Same.new h3 (.tup [.int 1, .int (10 ^ Int.toNat 39)])
  have hp3 : Fq K (upd H3 p3 (.tup [.int 1, .int (10 ^ Int.toNat 39)])) 140 p3 (1, 10 ^ Int.toNat 39) := ⟨ob_new k3, nf_one (by decide), sz_of (by decide) (by decide)⟩
  have hq1a := hq1'.same sA
  have hq2a := hq2.same sA
  have L4 := L3.same sA
  generalize upd H3 p3 (.tup [.int 1, .int (10 ^ Int.toNat 39)]) = H4 at hp3 hq1a hq2a L4 ⊢
  clear L3 st3 hq1' hq2 sA h3
  refine ⟨_, rfl, 1, rfl, sz2 (by show 2 ≤ 100; decide), fun p4 h4 k4 => ?_⟩
  obtain ⟨ys4, hys4⟩ := L4.st.at
  have sB := Same.new h4 (.lst [.int 1, .int (-1)])
  refine ⟨sr, p4, _, rfl, L4.st.same sB, upd_same, ne_new hys4 h4, by show 0 < 2; decide, by show 2 < 1000; decide, fun e H5 he kp5 st5 => ?_⟩
  have bB : Kp sr H4 H5 := (Kp.same sB).trans kp5
  have L5 := L4.kp bB st5
  have hp3b := hp3.kp bB hys4
  have hq1b := hq1a.kp bB hys4
  have hq2b := hq2a.kp bB hys4
  clear kp5 L4 hp3 hq1a hq2a sB h4 hys4
  refine ⟨10, 39, rfl, rfl, ⟨by decide, by decide, by decide⟩, _, _, rfl, rfl, _, rfl, sr, 12, rfl, st5, by omega, fun t H6 t0 t1 kp6 st6 => ⟨_, _, rfl, rfl, sz2 (by show 2 ≤ 100; decide), fun p5 h5 k5 => ⟨sz2 (by show 2 ≤ 100; decide), fun p6 h6 k6 => ?_⟩⟩⟩
  obtain ⟨ys5, hys5⟩ := st5.at
  have sC := (Same.new h5 (.tup [e, .int (10 ^ Int.toNat 39 + 1 + t)])).trans (Same.new h6 (.lst [.ref p3, .ref p5]))
  have L6 := (L5.kp kp6 st6).same sC
  have hp3c := (hp3b.kp kp6 hys5).same sC
  have hq1c := (hq1b.kp kp6 hys5).same sC
  have hq2c := (hq2b.kp kp6 hys5).same sC
  have o5 := ob_same (Same.new h6 (.lst [.ref p3, .ref p5])) (ob_new (H := H6) (o := .tup [e, .int (10 ^ Int.toNat 39 + 1 + t)]) k5)
  have o6 := ob_new (H := upd H6 p5 (.tup [e, .int (10 ^ Int.toNat 39 + 1 + t)])) (o := .lst [.ref p3, .ref p5]) k6
  have big : (10 : Int) ^ Int.toNat 39 = 1000000000000000000000000000000000000000 := by decide
  obtain ⟨qe, hp5⟩ : ∃ z : Qt, Fq K (upd (upd H6 p5 (.tup [e, .int (10 ^ Int.toNat 39 + 1 + t)])) p6 (.lst [.ref p3, .ref p5])) 140 p5 z := by
    simp only [List.mem_cons, List.not_mem_nil, or_false] at he
    rw [big] at o5 ⊢
    rcases he with rfl | rfl
    · exact ⟨(1, 1000000000000000000000000000000000000000 + 1 + t), o5, nf_one (by omega), sz_of (by decide) (by omega)⟩
    · exact ⟨(-1, 1000000000000000000000000000000000000000 + 1 + t), o5, nf_mone (by omega), sz_of (by decide) (by omega)⟩
  generalize upd (upd H6 p5 (.tup [e, .int (10 ^ Int.toNat 39 + 1 + t)])) p6 (.lst [.ref p3, .ref p5]) = H7 at L6 hp3c hq1c hq2c o6 hp5 ⊢
  clear L5 hp3b hq1b hq2b o5 sC h5 h6 hys5 st5 kp6 st6 bB
  -- the deep one
  refine ⟨_, rfl, _, rfl, p6, 0, rfl, rfl, _, itsO_ofL o6, _, atI_0 _ _, a1, p3, q1, _, rfl, hq1c.mono (by omega), hp3c.mono (by omega), fun z hz c1 H8 s8 o8 => ?_⟩
  have hz8 : Fq K H8 290 c1 z := ⟨o8, hz.1, is_sz (mul_ne hq1c.nf.1 hp3c.nf.1) hz (szAdd (szMul hq1c.sz.1 hp3c.sz.2) (szMul hp3c.sz.1 hq1c.sz.2) (by omega) (by omega)) (szMono (szMul hq1c.sz.2 hp3c.sz.2) (by omega))⟩
  have hp5a := hp5.same s8
  refine ⟨_, rfl, p6, 1, rfl, rfl, _, itsO_ofL (ob_same s8 o6), _, atI_1 _ _ _, c1, p5, z, qe, rfl, hz8.mono (by omega), hp5a.mono (by omega), fun y hy c2 H9 s9 o9 => ?_⟩
  have hy9 : Fq K H9 440 c2 y := ⟨o9, hy.1, is_sz (mul_ne hz8.nf.1 hp5a.nf.1) hy (szAdd (szMul hz8.sz.1 hp5a.sz.2) (szMul hp5a.sz.1 hz8.sz.2) (by omega) (by omega)) (szMono (szMul hz8.sz.2 hp5a.sz.2) (by omega))⟩
  have s89 := s8.trans s9
  have L9 := L6.same s89
  have hq1d := hq1c.same s89
  have hq2d := hq2c.same s89
  have hp3d := hp3c.same s89
  have hp5d := hp5.same s89
  have o6d := ob_same s89 o6
  clear L6 hq1c hq2c hp3c hp5 hp5a o6 o8 o9
  -- the same by the law's own sum
  refine ⟨_, rfl, _, rfl, _, rfl, p6, 0, rfl, rfl, _, itsO_ofL o6d, _, atI_0 _ _, a1, p3, q1, _, rfl, hq1d.mono (by omega), hp3d.mono (by omega), fun z' hz' c3 H10 s10 o10 => ?_⟩
  obtain rfl : z' = z := is_unique (mul_ne hq1d.nf.1 hp3d.nf.1) hz' hz
  refine ⟨_, rfl, p6, 1, rfl, rfl, _, itsO_ofL (ob_same s10 o6d), _, atI_1 _ _ _, c3, p5, z', qe, rfl, ⟨o10, hz'.1, hz8.sz.mono (by omega)⟩, (hp5d.same s10).mono (by omega), fun y' hy' c4 H11 s11 o11 => ?_⟩
  obtain rfl : y' = y := is_unique (mul_ne hz8.nf.1 hp5d.nf.1) hy' hy
  have s1011 := s10.trans s11
  have hy11 := hy9.same s1011
  refine ⟨_, _, rfl, eqv_tup hy11.o o11 rfl (by show 2 ≤ 1000; decide), fun H12 s12 => ⟨true, rfl, iteF ?_⟩⟩
  have s912 := s1011.trans s12
  have L12 := L9.same s912
  have hq1e := hq1d.same s912
  have hq2e := hq2d.same s912
  have hy12 := hy9.same s912
  clear L9 hq1d hq2d hy9 hy11 hz8 hp3d hp5d o6d o10 o11 s10 s11 s1011 s12 s912 s8 s9 s89 hz hz' hy hy'
  -- the seven values
  obtain ⟨ys12, hys12⟩ := L12.st.at
  refine ⟨_, rfl, _, rfl, sr, rfl, L12.st, fun b1 r1 H13 hr1 kp13 st13 => ⟨_, rfl, _, rfl, _, rfl, a1, q1, rfl, (hq1e.kp kp13 hys12).mono (by omega), fun b2 H14 s14 o14 => ⟨_, rfl, a2, _, rfl, ((hq2e.kp kp13 hys12).same s14).mono (by omega), fun b3 H15 s15 o15 => ⟨_, rfl, sz2 (by show 7 ≤ 100; decide), fun l1 hl1 kl1 => ?_⟩⟩⟩⟩
  obtain ⟨ysL, hysL⟩ := (st13.same (s14.trans s15)).at
  have n1 : l1 ≠ sr := (ne_new hysL hl1).symm
  have sN := Same.new hl1 (.lst [.ref a1, .ref b1, .ref a2, .ref a1, .ref b2, .ref b3, .ref c2])
  have s1N := s14.trans (s15.trans sN)
  have g1 := ((hq1e.kp kp13 hys12).same s1N).mono (show 140 ≤ 3000 by omega)
  have g2 := (hr1.same s1N).mono (show 140 ≤ 3000 by omega)
  have g3 := ((hq2e.kp kp13 hys12).same s1N).mono (show 140 ≤ 3000 by omega)
  have g4 : Fq K _ 3000 b2 (q1.1 % q1.2, q1.2) := ⟨ob_same (s15.trans sN) o14, nf_part hq1e.nf, (szPart hq1e.nf hq1e.sz).mono (by omega)⟩
  have g5 : Fq K _ 3000 b3 (off (-q1.1, q1.2)) := ⟨ob_same sN o15, nf_off hq2e.nf, (szOff hq2e.nf hq2e.sz).mono (by omega)⟩
  have g6 := ((hy12.kp kp13 hys12).same s1N).mono (show 440 ≤ 3000 by omega)
  have LN := (L12.kp kp13 st13).same s1N
  have all0 : AllF K _ [.ref a1, .ref b1, .ref a2, .ref a1, .ref b2, .ref b3, .ref c2] := fun x hx => by
    simp only [List.mem_cons, List.not_mem_nil, or_false] at hx
    rcases hx with rfl | rfl | rfl | rfl | rfl | rfl | rfl
    · exact ⟨_, _, rfl, g1⟩
    · exact ⟨_, _, rfl, g2⟩
    · exact ⟨_, _, rfl, g3⟩
    · exact ⟨_, _, rfl, g1⟩
    · exact ⟨_, _, rfl, g4⟩
    · exact ⟨_, _, rfl, g5⟩
    · exact ⟨_, _, rfl, g6⟩
  refine ⟨l1, rfl, ⟨_, .of upd_same⟩, forI_list (xs := [.ref a1, .ref b1, .ref a2, .ref a1, .ref b2, .ref b3, .ref c2]) (OutI K [(Pt, qLam)] sr l1 [.ref a1, .ref b1, .ref a2, .ref a1, .ref b2, .ref b3, .ref c2] (some (.ref a)) (some (.ref sr)) (some (.ref a1)) (some (.ref a2)) (some (.ref p6)) (some (.ref c2))) ⟨none, none, none, rfl, LN, upd_same, all0⟩ ?_ ?_ ?_⟩
  · rintro i σ H' _ ⟨x6, x7, x8, rfl, LS, hl, hx⟩
    exact .of hl
  · rintro i x σ H' hi ⟨x6, x7, x8, rfl, LS, hl, hx⟩
    obtain ⟨b, qb, rfl, hb⟩ := hx x (List.mem_of_getElem? hi)
    refine ⟨_, rfl, b, qb, rfl, hb, fun H'1 s'1 => ⟨true, rfl, iteF ?_⟩⟩
    refine ⟨sz2 (by show 4 ≤ 100; decide), fun l2 hl2 kl2 => ?_⟩
    obtain ⟨ysK, hysK⟩ := (LS.st.same s'1).at
    have n2 : l2 ≠ sr := (ne_new hysK hl2).symm
    have sM := s'1.trans (Same.new hl2 (.lst [.ref f1, .ref f2, .ref f3, .ref f4]))
    obtain ⟨ysM, hysM⟩ := LS.st.at
    refine ⟨l2, rfl, ⟨_, .of upd_same⟩, forI_list (xs := [.ref f1, .ref f2, .ref f3, .ref f4]) (InnI K [(Pt, qLam)] sr l1 l2 [.ref a1, .ref b1, .ref a2, .ref a1, .ref b2, .ref b3, .ref c2] [.ref f1, .ref f2, .ref f3, .ref f4] (some (.ref a)) (some (.ref sr)) (some (.ref a1)) (some (.ref a2)) (some (.ref p6)) (some (.ref c2)) (some (.ref b))) ⟨x7, x8, rfl, LS.same sM, sM _ _ hl, hx.bg (Bg.same sM) hysM, upd_same⟩ ?_ ?_ ?_⟩
    · rintro j σ H' _ ⟨x7, x8, rfl, LS, hl, hx, hl2⟩
      exact .of hl2
    · rintro j y σ H' hj ⟨x7, x8, rfl, LS, hl, hx, hl2⟩
      obtain ⟨f, rfl, hf⟩ : ∃ f, y = .ref f ∧ isFour mg f := by
        have hy := List.mem_of_getElem? hj
        simp only [List.mem_cons, List.not_mem_nil, or_false] at hy
        rcases hy with rfl | rfl | rfl | rfl
        · exact ⟨_, rfl, _, by simp, F4.m1⟩
        · exact ⟨_, rfl, _, by simp, F4.m2⟩
        · exact ⟨_, rfl, _, by simp, F4.m3⟩
        · exact ⟨_, rfl, _, by simp, F4.m4⟩
      refine ⟨_, rfl, sr, rfl, LS.st, fun v H1 hv kp1 st1 => ?_⟩
      have LS1 := LS.kp kp1 st1
      obtain ⟨ys0, hys0⟩ := LS.st.at
      refine ⟨LS1.tb, fun H2 e2 t2 => ⟨f, rfl, hf, _, rfl, v, rfl, hv.ext e2, fun d H3 s3 h3 => ⟨rfl, d, _, rfl, h3, fun p H4 s4 o4 => ?_⟩⟩⟩
      refine ⟨sz2 (by show 2 ≤ 100; decide), fun p2 hp2 kp2 => ?_⟩
      have sQ := Same.new hp2 (.tup [.str "BadValue", .str "value"])
      refine ⟨_, _, rfl, eqv_tup (ob_same sQ o4) (ob_new kp2) rfl (by show 2 ≤ 1000; decide), fun H5 s5 => ⟨true, rfl, iteF ?_⟩⟩
      have s25 := s3.trans (s4.trans (sQ.trans s5))
      have bg : Bg sr H' H5 := (Bg.kp kp1).trans ((Bg.ext e2).trans (Bg.same s25))
      exact ⟨_, _, rfl, ⟨(st1.ext e2).same s25, tabs_same s25 t2⟩, bg _ _ n1 (fun _ z => by cases z) hl, hx.bg bg hys0, bg _ _ n2 (fun _ z => by cases z) hl2⟩
    · rintro σ H' ⟨x7, x8, rfl, LS, hl, hx, hl2⟩
      exact ⟨_, _, _, rfl, LS, hl, hx⟩
  · rintro σ H' ⟨x6, x7, x8, rfl, LS, hl, hx⟩
    exact k H'
end
end My

namespace My
open PySem PySem.Spec PyProof.Rows L2
/-! ### the end: what the top has written -/
theorem dfn_mk {K : PySem.W.Frag} {h : Heap} {mg : Str → Option Value} {x : Str} {st : Stmt} {ps : List Str} {f : Addr} {oc kV doc pm cd ct : Value} {od an : Option Addr} {sl : Array (Option Value)} (X : K.In h) (G : h.Ns mainGlobals mg)
    (a : PySem.W.nsIn K mainGlobals x = some (some (.ref f))) (l : K.lookup f = some ⟨oc, od, .func (PySem.W.fnOf x x (defArgs st) (defBody st) (defScope st) .none kV doc pm an cd ct), sl⟩) (c : PySem.W.codeIn K cd x = true) (k : PySem.W.keepIn K (.ref f) = true)
    (hb : ∀ (kV doc pm : Value) (an : Option Addr) (cdv ct : Value) (us : List Value), us.length = ps.length → bindArgs (PySem.W.fnOf x x (defArgs st) (defBody st) (defScope st) .none kV doc pm an cdv ct) ⟨us, []⟩ = pure (ps.zip us)) : Dfn K mg x st ps :=
  ⟨f, _, fun_mk l c k, PySem.W.mg_of X G a, (fun_mk l c k).binds hb⟩
theorem all_mk {P : Program} {w : World} {K : PySem.W.Frag} {h : Heap} {mg : Str → Option Value} {fa : Addr} (X : K.In h) (G : h.Ns mainGlobals mg) (hfa : mg "law" = some (.ref fa)) {f0 : Addr} {oc0 kV0 dc0 pm0 cd0 ct0 : Value} {od0 an0 : Option Addr} {sl0 : Array (Option Value)} {f1 : Addr} {oc1 kV1 dc1 pm1 cd1 ct1 : Value} {od1 an1 : Option Addr} {sl1 : Array (Option Value)} {f2 : Addr} {oc2 kV2 dc2 pm2 cd2 ct2 : Value} {od2 an2 : Option Addr} {sl2 : Array (Option Value)} {f3 : Addr} {oc3 kV3 dc3 pm3 cd3 ct3 : Value} {od3 an3 : Option Addr} {sl3 : Array (Option Value)} {f4 : Addr} {oc4 kV4 dc4 pm4 cd4 ct4 : Value} {od4 an4 : Option Addr} {sl4 : Array (Option Value)} {f5 : Addr} {oc5 kV5 dc5 pm5 cd5 ct5 : Value} {od5 an5 : Option Addr} {sl5 : Array (Option Value)} {f6 : Addr} {oc6 kV6 dc6 pm6 cd6 ct6 : Value} {od6 an6 : Option Addr} {sl6 : Array (Option Value)} {f7 : Addr} {oc7 kV7 dc7 pm7 cd7 ct7 : Value} {od7 an7 : Option Addr} {sl7 : Array (Option Value)} {f8 : Addr} {oc8 kV8 dc8 pm8 cd8 ct8 : Value} {od8 an8 : Option Addr} {sl8 : Array (Option Value)} {f9 : Addr} {oc9 kV9 dc9 pm9 cd9 ct9 : Value} {od9 an9 : Option Addr} {sl9 : Array (Option Value)} {f10 : Addr} {oc10 kV10 dc10 pm10 cd10 ct10 : Value} {od10 an10 : Option Addr} {sl10 : Array (Option Value)} {f11 : Addr} {oc11 kV11 dc11 pm11 cd11 ct11 : Value} {od11 an11 : Option Addr} {sl11 : Array (Option Value)} {f12 : Addr} {oc12 kV12 dc12 pm12 cd12 ct12 : Value} {od12 an12 : Option Addr} {sl12 : Array (Option Value)} {f13 : Addr} {oc13 kV13 dc13 pm13 cd13 ct13 : Value} {od13 an13 : Option Addr} {sl13 : Array (Option Value)} {f14 : Addr} {oc14 kV14 dc14 pm14 cd14 ct14 : Value} {od14 an14 : Option Addr} {sl14 : Array (Option Value)} {f15 : Addr} {oc15 kV15 dc15 pm15 cd15 ct15 : Value} {od15 an15 : Option Addr} {sl15 : Array (Option Value)} {f16 : Addr} {oc16 kV16 dc16 pm16 cd16 ct16 : Value} {od16 an16 : Option Addr} {sl16 : Array (Option Value)} {f17 : Addr} {oc17 kV17 dc17 pm17 cd17 ct17 : Value} {od17 an17 : Option Addr} {sl17 : Array (Option Value)} {f18 : Addr} {oc18 kV18 dc18 pm18 cd18 ct18 : Value} {od18 an18 : Option Addr} {sl18 : Array (Option Value)} {f19 : Addr} {oc19 kV19 dc19 pm19 cd19 ct19 : Value} {od19 an19 : Option Addr} {sl19 : Array (Option Value)} {f20 : Addr} {oc20 kV20 dc20 pm20 cd20 ct20 : Value} {od20 an20 : Option Addr} {sl20 : Array (Option Value)} {f21 : Addr} {oc21 kV21 dc21 pm21 cd21 ct21 : Value} {od21 an21 : Option Addr} {sl21 : Array (Option Value)} {f22 : Addr} {oc22 kV22 dc22 pm22 cd22 ct22 : Value} {od22 an22 : Option Addr} {sl22 : Array (Option Value)} {f23 : Addr} {oc23 kV23 dc23 pm23 cd23 ct23 : Value} {od23 an23 : Option Addr} {sl23 : Array (Option Value)} {f24 : Addr} {oc24 kV24 dc24 pm24 cd24 ct24 : Value} {od24 an24 : Option Addr} {sl24 : Array (Option Value)} {f25 : Addr} {oc25 kV25 dc25 pm25 cd25 ct25 : Value} {od25 an25 : Option Addr} {sl25 : Array (Option Value)} {f26 : Addr} {oc26 kV26 dc26 pm26 cd26 ct26 : Value} {od26 an26 : Option Addr} {sl26 : Array (Option Value)} {f27 : Addr} {oc27 kV27 dc27 pm27 cd27 ct27 : Value} {od27 an27 : Option Addr} {sl27 : Array (Option Value)} {f28 : Addr} {oc28 kV28 dc28 pm28 cd28 ct28 : Value} {od28 an28 : Option Addr} {sl28 : Array (Option Value)} {f29 : Addr} {oc29 kV29 dc29 pm29 cd29 ct29 : Value} {od29 an29 : Option Addr} {sl29 : Array (Option Value)} {fF tF : Addr} {ocF kVF dcF pmF cdF ctF ocT : Value} {odF anF odT : Option Addr} {slF slT : Array (Option Value)} {tk : Tok} {nT : Nat} {C S fI : Addr} {nm qn : Str} {N0 : Addr} {bs bm : List Value} {sn : List Str} {sub : List Value} {ab : Bool} {col : Option Bool} {dd : Option Addr} {m0 m1 m2 m3 m5 : Option Value} {ocI kVI dcI pmI cdI ctI : Value} {odI anI : Option Addr} {slI : Array (Option Value)} {C_Mismatch : Addr} {C_Still : Addr} {C_Endless : Addr} {C_TooMany : Addr} {C_NoName : Addr} {C_Taken : Addr} {C_Locked : Addr} {C_Looped : Addr} {C_Broken : Addr} {C_ReadError : Addr} {gA : Addr} {ocA kVA dcA pmA cdA ctA : Value} {odA anA : Option Addr} {slA : Array (Option Value)} {fL cL : Addr} {ocL kVL dcL pmL ctL : Value} {odL anL : Option Addr} {slL : Array (Option Value)}
    (a0 : PySem.W.nsIn K mainGlobals "require" = some (some (.ref f0)))
    (l0 : K.lookup f0 = some ⟨oc0, od0, .func (PySem.W.fnOf "require" "require" (defArgs sRequire) (defBody sRequire) (defScope sRequire) .none kV0 dc0 pm0 an0 cd0 ct0), sl0⟩)
    (c0 : PySem.W.codeIn K cd0 "require" = true)
    (k0 : PySem.W.keepIn K (.ref f0) = true)
    (a1 : PySem.W.nsIn K mainGlobals "is_whole" = some (some (.ref f1)))
    (l1 : K.lookup f1 = some ⟨oc1, od1, .func (PySem.W.fnOf "is_whole" "is_whole" (defArgs sWhole) (defBody sWhole) (defScope sWhole) .none kV1 dc1 pm1 an1 cd1 ct1), sl1⟩)
    (c1 : PySem.W.codeIn K cd1 "is_whole" = true)
    (k1 : PySem.W.keepIn K (.ref f1) = true)
    (a2 : PySem.W.nsIn K mainGlobals "is_fraction" = some (some (.ref f2)))
    (l2 : K.lookup f2 = some ⟨oc2, od2, .func (PySem.W.fnOf "is_fraction" "is_fraction" (defArgs sIsFraction) (defBody sIsFraction) (defScope sIsFraction) .none kV2 dc2 pm2 an2 cd2 ct2), sl2⟩)
    (c2 : PySem.W.codeIn K cd2 "is_fraction" = true)
    (k2 : PySem.W.keepIn K (.ref f2) = true)
    (a3 : PySem.W.nsIn K mainGlobals "plus" = some (some (.ref f3)))
    (l3 : K.lookup f3 = some ⟨oc3, od3, .func (PySem.W.fnOf "plus" "plus" (defArgs sPlus) (defBody sPlus) (defScope sPlus) .none kV3 dc3 pm3 an3 cd3 ct3), sl3⟩)
    (c3 : PySem.W.codeIn K cd3 "plus" = true)
    (k3 : PySem.W.keepIn K (.ref f3) = true)
    (a4 : PySem.W.nsIn K mainGlobals "magnitude" = some (some (.ref f4)))
    (l4 : K.lookup f4 = some ⟨oc4, od4, .func (PySem.W.fnOf "magnitude" "magnitude" (defArgs sMagn) (defBody sMagn) (defScope sMagn) .none kV4 dc4 pm4 an4 cd4 ct4), sl4⟩)
    (c4 : PySem.W.codeIn K cd4 "magnitude" = true)
    (k4 : PySem.W.keepIn K (.ref f4) = true)
    (a5 : PySem.W.nsIn K mainGlobals "floor_of" = some (some (.ref f5)))
    (l5 : K.lookup f5 = some ⟨oc5, od5, .func (PySem.W.fnOf "floor_of" "floor_of" (defArgs sFloor) (defBody sFloor) (defScope sFloor) .none kV5 dc5 pm5 an5 cd5 ct5), sl5⟩)
    (c5 : PySem.W.codeIn K cd5 "floor_of" = true)
    (k5 : PySem.W.keepIn K (.ref f5) = true)
    (a6 : PySem.W.nsIn K mainGlobals "part_of" = some (some (.ref f6)))
    (l6 : K.lookup f6 = some ⟨oc6, od6, .func (PySem.W.fnOf "part_of" "part_of" (defArgs sPart) (defBody sPart) (defScope sPart) .none kV6 dc6 pm6 an6 cd6 ct6), sl6⟩)
    (c6 : PySem.W.codeIn K cd6 "part_of" = true)
    (k6 : PySem.W.keepIn K (.ref f6) = true)
    (a7 : PySem.W.nsIn K mainGlobals "offset_of" = some (some (.ref f7)))
    (l7 : K.lookup f7 = some ⟨oc7, od7, .func (PySem.W.fnOf "offset_of" "offset_of" (defArgs sOffset) (defBody sOffset) (defScope sOffset) .none kV7 dc7 pm7 an7 cd7 ct7), sl7⟩)
    (c7 : PySem.W.codeIn K cd7 "offset_of" = true)
    (k7 : PySem.W.keepIn K (.ref f7) = true)
    (a8 : PySem.W.nsIn K mainGlobals "distance_of" = some (some (.ref f8)))
    (l8 : K.lookup f8 = some ⟨oc8, od8, .func (PySem.W.fnOf "distance_of" "distance_of" (defArgs sDistance) (defBody sDistance) (defScope sDistance) .none kV8 dc8 pm8 an8 cd8 ct8), sl8⟩)
    (c8 : PySem.W.codeIn K cd8 "distance_of" = true)
    (k8 : PySem.W.keepIn K (.ref f8) = true)
    (a9 : PySem.W.nsIn K mainGlobals "_law_mixed" = some (some (.ref f9)))
    (l9 : K.lookup f9 = some ⟨oc9, od9, .func (PySem.W.fnOf "_law_mixed" "_law_mixed" (defArgs sMixed) (defBody sMixed) (defScope sMixed) .none kV9 dc9 pm9 an9 cd9 ct9), sl9⟩)
    (c9 : PySem.W.codeIn K cd9 "_law_mixed" = true)
    (k9 : PySem.W.keepIn K (.ref f9) = true)
    (a10 : PySem.W.nsIn K mainGlobals "_law_store" = some (some (.ref f10)))
    (l10 : K.lookup f10 = some ⟨oc10, od10, .func (PySem.W.fnOf "_law_store" "_law_store" (defArgs sStore) (defBody sStore) (defScope sStore) .none kV10 dc10 pm10 an10 cd10 ct10), sl10⟩)
    (c10 : PySem.W.codeIn K cd10 "_law_store" = true)
    (k10 : PySem.W.keepIn K (.ref f10) = true)
    (a11 : PySem.W.nsIn K mainGlobals "_law_take" = some (some (.ref f11)))
    (l11 : K.lookup f11 = some ⟨oc11, od11, .func (PySem.W.fnOf "_law_take" "_law_take" (defArgs sTake) (defBody sTake) (defScope sTake) .none kV11 dc11 pm11 an11 cd11 ct11), sl11⟩)
    (c11 : PySem.W.codeIn K cd11 "_law_take" = true)
    (k11 : PySem.W.keepIn K (.ref f11) = true)
    (a12 : PySem.W.nsIn K mainGlobals "_law_pick" = some (some (.ref f12)))
    (l12 : K.lookup f12 = some ⟨oc12, od12, .func (PySem.W.fnOf "_law_pick" "_law_pick" (defArgs sPick) (defBody sPick) (defScope sPick) .none kV12 dc12 pm12 an12 cd12 ct12), sl12⟩)
    (c12 : PySem.W.codeIn K cd12 "_law_pick" = true)
    (k12 : PySem.W.keepIn K (.ref f12) = true)
    (a13 : PySem.W.nsIn K mainGlobals "_law_gcd" = some (some (.ref f13)))
    (l13 : K.lookup f13 = some ⟨oc13, od13, .func (PySem.W.fnOf "_law_gcd" "_law_gcd" (defArgs sGcd) (defBody sGcd) (defScope sGcd) .none kV13 dc13 pm13 an13 cd13 ct13), sl13⟩)
    (c13 : PySem.W.codeIn K cd13 "_law_gcd" = true)
    (k13 : PySem.W.keepIn K (.ref f13) = true)
    (a14 : PySem.W.nsIn K mainGlobals "_law_lowest" = some (some (.ref f14)))
    (l14 : K.lookup f14 = some ⟨oc14, od14, .func (PySem.W.fnOf "_law_lowest" "_law_lowest" (defArgs sLowest) (defBody sLowest) (defScope sLowest) .none kV14 dc14 pm14 an14 cd14 ct14), sl14⟩)
    (c14 : PySem.W.codeIn K cd14 "_law_lowest" = true)
    (k14 : PySem.W.keepIn K (.ref f14) = true)
    (a15 : PySem.W.nsIn K mainGlobals "_law_plus" = some (some (.ref f15)))
    (l15 : K.lookup f15 = some ⟨oc15, od15, .func (PySem.W.fnOf "_law_plus" "_law_plus" (defArgs sLPlus) (defBody sLPlus) (defScope sLPlus) .none kV15 dc15 pm15 an15 cd15 ct15), sl15⟩)
    (c15 : PySem.W.codeIn K cd15 "_law_plus" = true)
    (k15 : PySem.W.keepIn K (.ref f15) = true)
    (a16 : PySem.W.nsIn K mainGlobals "_law_part" = some (some (.ref f16)))
    (l16 : K.lookup f16 = some ⟨oc16, od16, .func (PySem.W.fnOf "_law_part" "_law_part" (defArgs sLPart) (defBody sLPart) (defScope sLPart) .none kV16 dc16 pm16 an16 cd16 ct16), sl16⟩)
    (c16 : PySem.W.codeIn K cd16 "_law_part" = true)
    (k16 : PySem.W.keepIn K (.ref f16) = true)
    (a17 : PySem.W.nsIn K mainGlobals "_law_offset" = some (some (.ref f17)))
    (l17 : K.lookup f17 = some ⟨oc17, od17, .func (PySem.W.fnOf "_law_offset" "_law_offset" (defArgs sLOffset) (defBody sLOffset) (defScope sLOffset) .none kV17 dc17 pm17 an17 cd17 ct17), sl17⟩)
    (c17 : PySem.W.codeIn K cd17 "_law_offset" = true)
    (k17 : PySem.W.keepIn K (.ref f17) = true)
    (a18 : PySem.W.nsIn K mainGlobals "_law_is_whole" = some (some (.ref f18)))
    (l18 : K.lookup f18 = some ⟨oc18, od18, .func (PySem.W.fnOf "_law_is_whole" "_law_is_whole" (defArgs sLWhole) (defBody sLWhole) (defScope sLWhole) .none kV18 dc18 pm18 an18 cd18 ct18), sl18⟩)
    (c18 : PySem.W.codeIn K cd18 "_law_is_whole" = true)
    (k18 : PySem.W.keepIn K (.ref f18) = true)
    (a19 : PySem.W.nsIn K mainGlobals "_law_is_frac" = some (some (.ref f19)))
    (l19 : K.lookup f19 = some ⟨oc19, od19, .func (PySem.W.fnOf "_law_is_frac" "_law_is_frac" (defArgs sLFrac) (defBody sLFrac) (defScope sLFrac) .none kV19 dc19 pm19 an19 cd19 ct19), sl19⟩)
    (c19 : PySem.W.codeIn K cd19 "_law_is_frac" = true)
    (k19 : PySem.W.keepIn K (.ref f19) = true)
    (a20 : PySem.W.nsIn K mainGlobals "_law_is_fracs" = some (some (.ref f20)))
    (l20 : K.lookup f20 = some ⟨oc20, od20, .func (PySem.W.fnOf "_law_is_fracs" "_law_is_fracs" (defArgs sLFracs) (defBody sLFracs) (defScope sLFracs) .none kV20 dc20 pm20 an20 cd20 ct20), sl20⟩)
    (c20 : PySem.W.codeIn K cd20 "_law_is_fracs" = true)
    (k20 : PySem.W.keepIn K (.ref f20) = true)
    (a21 : PySem.W.nsIn K mainGlobals "_law_same" = some (some (.ref f21)))
    (l21 : K.lookup f21 = some ⟨oc21, od21, .func (PySem.W.fnOf "_law_same" "_law_same" (defArgs sSame) (defBody sSame) (defScope sSame) .none kV21 dc21 pm21 an21 cd21 ct21), sl21⟩)
    (c21 : PySem.W.codeIn K cd21 "_law_same" = true)
    (k21 : PySem.W.keepIn K (.ref f21) = true)
    (a22 : PySem.W.nsIn K mainGlobals "_law_whole" = some (some (.ref f22)))
    (l22 : K.lookup f22 = some ⟨oc22, od22, .func (PySem.W.fnOf "_law_whole" "_law_whole" (defArgs sLInt) (defBody sLInt) (defScope sLInt) .none kV22 dc22 pm22 an22 cd22 ct22), sl22⟩)
    (c22 : PySem.W.codeIn K cd22 "_law_whole" = true)
    (k22 : PySem.W.keepIn K (.ref f22) = true)
    (a23 : PySem.W.nsIn K mainGlobals "_law_great" = some (some (.ref f23)))
    (l23 : K.lookup f23 = some ⟨oc23, od23, .func (PySem.W.fnOf "_law_great" "_law_great" (defArgs sGreat) (defBody sGreat) (defScope sGreat) .none kV23 dc23 pm23 an23 cd23 ct23), sl23⟩)
    (c23 : PySem.W.codeIn K cd23 "_law_great" = true)
    (k23 : PySem.W.keepIn K (.ref f23) = true)
    (a24 : PySem.W.nsIn K mainGlobals "_law_frac" = some (some (.ref f24)))
    (l24 : K.lookup f24 = some ⟨oc24, od24, .func (PySem.W.fnOf "_law_frac" "_law_frac" (defArgs sDFrac) (defBody sDFrac) (defScope sDFrac) .none kV24 dc24 pm24 an24 cd24 ct24), sl24⟩)
    (c24 : PySem.W.codeIn K cd24 "_law_frac" = true)
    (k24 : PySem.W.keepIn K (.ref f24) = true)
    (a25 : PySem.W.nsIn K mainGlobals "_law_frac_wide" = some (some (.ref f25)))
    (l25 : K.lookup f25 = some ⟨oc25, od25, .func (PySem.W.fnOf "_law_frac_wide" "_law_frac_wide" (defArgs sDFracW) (defBody sDFracW) (defScope sDFracW) .none kV25 dc25 pm25 an25 cd25 ct25), sl25⟩)
    (c25 : PySem.W.codeIn K cd25 "_law_frac_wide" = true)
    (k25 : PySem.W.keepIn K (.ref f25) = true)
    (a26 : PySem.W.nsIn K mainGlobals "_law_bad_frac" = some (some (.ref f26)))
    (l26 : K.lookup f26 = some ⟨oc26, od26, .func (PySem.W.fnOf "_law_bad_frac" "_law_bad_frac" (defArgs sBadFrac) (defBody sBadFrac) (defScope sBadFrac) .none kV26 dc26 pm26 an26 cd26 ct26), sl26⟩)
    (c26 : PySem.W.codeIn K cd26 "_law_bad_frac" = true)
    (k26 : PySem.W.keepIn K (.ref f26) = true)
    (a27 : PySem.W.nsIn K mainGlobals "_law_value" = some (some (.ref f27)))
    (l27 : K.lookup f27 = some ⟨oc27, od27, .func (PySem.W.fnOf "_law_value" "_law_value" (defArgs sDValue) (defBody sDValue) (defScope sDValue) .none kV27 dc27 pm27 an27 cd27 ct27), sl27⟩)
    (c27 : PySem.W.codeIn K cd27 "_law_value" = true)
    (k27 : PySem.W.keepIn K (.ref f27) = true)
    (a28 : PySem.W.nsIn K mainGlobals "_law_leaves_whole" = some (some (.ref f28)))
    (l28 : K.lookup f28 = some ⟨oc28, od28, .func (PySem.W.fnOf "_law_leaves_whole" "_law_leaves_whole" (defArgs sLeaves) (defBody sLeaves) (defScope sLeaves) .none kV28 dc28 pm28 an28 cd28 ct28), sl28⟩)
    (c28 : PySem.W.codeIn K cd28 "_law_leaves_whole" = true)
    (k28 : PySem.W.keepIn K (.ref f28) = true)
    (a29 : PySem.W.nsIn K mainGlobals "_law_holds" = some (some (.ref f29)))
    (l29 : K.lookup f29 = some ⟨oc29, od29, .func (PySem.W.fnOf "_law_holds" "_law_holds" (defArgs sHolds) (defBody sHolds) (defScope sHolds) .none kV29 dc29 pm29 an29 cd29 ct29), sl29⟩)
    (c29 : PySem.W.codeIn K cd29 "_law_holds" = true)
    (k29 : PySem.W.keepIn K (.ref f29) = true)
    (aF : PySem.W.nsIn K mainGlobals "fraction" = some (some (.ref fF)))
    (lF : K.lookup fF = some ⟨ocF, odF, .func (PySem.W.fnOf "fraction" "fraction" (defArgs sFraction) (defBody sFraction) (defScope sFraction) (.ref tF) kVF dcF pmF anF cdF ctF), slF⟩)
    (cF : PySem.W.codeIn K cdF "fraction" = true)
    (kF : PySem.W.keepIn K (.ref fF) = true)
    (lT : K.lookup tF = some ⟨ocT, odT, .seq #[.int 1 tk] nT, slT⟩)
    (z_int : PySem.W.nsIn K mainGlobals "int" = some none)
    (z_len : PySem.W.nsIn K mainGlobals "len" = some none)
    (z_list : PySem.W.nsIn K mainGlobals "list" = some none)
    (z_abs : PySem.W.nsIn K mainGlobals "abs" = some none)
    (z_range : PySem.W.nsIn K mainGlobals "range" = some none)
    (z_min : PySem.W.nsIn K mainGlobals "min" = some none)
    (z_max : PySem.W.nsIn K mainGlobals "max" = some none)
    (z_isinstance : PySem.W.nsIn K mainGlobals "isinstance" = some none)
    (z_bool : PySem.W.nsIn K mainGlobals "bool" = some none)
    (z_str : PySem.W.nsIn K mainGlobals "str" = some none)
    (z_dict : PySem.W.nsIn K mainGlobals "dict" = some none)
    (z_tuple : PySem.W.nsIn K mainGlobals "tuple" = some none)
    (z_gcd : PySem.W.nsIn K mainGlobals "gcd" = some (some (.builtin "math.gcd")))
    (z_VE : PySem.W.nsIn K mainGlobals "ValueError" = some none)
    (aC : PySem.W.nsIn K mainGlobals "BadValue" = some (some (.ref C)))
    (aS : PySem.W.nsIn K mainGlobals "SkyError" = some (some (.ref S)))
    (xL : K.lookup C = some (excClassObj nm qn C N0 bs bm true sn sub ab col dd m0 m1 m2 m3 m5 "ValueError.__new__"))
    (hbm : PySem.HandSPX.refsVE bm = true)
    (sa : PySem.W.findIn K (.ref C) "__setattr__" = some (some (.builtin "object.__setattr__")))
    (ga : PySem.W.findIn K (.ref C) "__getattribute__" = some (some (.builtin "BaseException.__getattribute__")))
    (gg : PySem.W.findIn K (.ref C) "__getattr__" = some none)
    (gc : PySem.W.findIn K (.ref C) "__class__" = some (some (.builtin "object.__class__")))
    (nw : PySem.W.findIn K (.ref C) "what" = some none)
    (aI : PySem.W.findIn K (.ref C) "__init__" = some (some (.ref fI)))
    (tI : PySem.W.typeIn K (.ref fI) = some (.type "function"))
    (lI : K.lookup fI = some ⟨ocI, odI, .func (PySem.W.fnOf "__init__" "BadValue.__init__" (defArgs sInitB) (defBody sInitB) (defScope sInitB) .none kVI dcI pmI anI cdI ctI), slI⟩)
    (cI : PySem.W.codeIn K cdI "BadValue.__init__" = true)
    (kI : PySem.W.keepIn K (.ref fI) = true)
    (kC : PySem.W.keepIn K (.ref C) = true)
    (eC : PySem.W.subIn K (.ref C) (.type "BaseException") = some true)
    (tC : PySem.W.typeIn K (.ref C) = some (.type "type"))
    (hC : PySem.W.hasDictIn K C = true)
    (mC : PySem.W.mroIn K C (.type "object") = some true)
    (vC : PySem.W.subIn K (.ref C) (.type "ValueError") = some true)
    (spc : PySem.W.specialIn K (.builtin "object.__class__") "__get__" = some (some (.builtin "getset_descriptor.__get__")))
    (tkc : PySem.W.takesIn K (.builtin "object.__class__") = some true)
    (eS : PySem.W.subIn K (.ref S) (.type "BaseException") = some true)
    (hS : PySem.W.hasDictIn K S = true)
    (tS : PySem.W.typeIn K (.ref S) = some (.type "type"))
    (cS : PySem.W.subIn K (.ref C) (.ref S) = some true)
    (a_Mismatch : PySem.W.nsIn K mainGlobals "Mismatch" = some (some (.ref C_Mismatch)))
    (t_Mismatch : PySem.W.typeIn K (.ref C_Mismatch) = some (.type "type"))
    (h_Mismatch : PySem.W.hasDictIn K C_Mismatch = true)
    (s_Mismatch : PySem.W.subIn K (.ref C) (.ref C_Mismatch) = some false)
    (n_Mismatch : (Value.ref C == Value.ref C_Mismatch) = false)
    (a_Still : PySem.W.nsIn K mainGlobals "Still" = some (some (.ref C_Still)))
    (t_Still : PySem.W.typeIn K (.ref C_Still) = some (.type "type"))
    (h_Still : PySem.W.hasDictIn K C_Still = true)
    (s_Still : PySem.W.subIn K (.ref C) (.ref C_Still) = some false)
    (n_Still : (Value.ref C == Value.ref C_Still) = false)
    (a_Endless : PySem.W.nsIn K mainGlobals "Endless" = some (some (.ref C_Endless)))
    (t_Endless : PySem.W.typeIn K (.ref C_Endless) = some (.type "type"))
    (h_Endless : PySem.W.hasDictIn K C_Endless = true)
    (s_Endless : PySem.W.subIn K (.ref C) (.ref C_Endless) = some false)
    (n_Endless : (Value.ref C == Value.ref C_Endless) = false)
    (a_TooMany : PySem.W.nsIn K mainGlobals "TooMany" = some (some (.ref C_TooMany)))
    (t_TooMany : PySem.W.typeIn K (.ref C_TooMany) = some (.type "type"))
    (h_TooMany : PySem.W.hasDictIn K C_TooMany = true)
    (s_TooMany : PySem.W.subIn K (.ref C) (.ref C_TooMany) = some false)
    (n_TooMany : (Value.ref C == Value.ref C_TooMany) = false)
    (a_NoName : PySem.W.nsIn K mainGlobals "NoName" = some (some (.ref C_NoName)))
    (t_NoName : PySem.W.typeIn K (.ref C_NoName) = some (.type "type"))
    (h_NoName : PySem.W.hasDictIn K C_NoName = true)
    (s_NoName : PySem.W.subIn K (.ref C) (.ref C_NoName) = some false)
    (n_NoName : (Value.ref C == Value.ref C_NoName) = false)
    (a_Taken : PySem.W.nsIn K mainGlobals "Taken" = some (some (.ref C_Taken)))
    (t_Taken : PySem.W.typeIn K (.ref C_Taken) = some (.type "type"))
    (h_Taken : PySem.W.hasDictIn K C_Taken = true)
    (s_Taken : PySem.W.subIn K (.ref C) (.ref C_Taken) = some false)
    (n_Taken : (Value.ref C == Value.ref C_Taken) = false)
    (a_Locked : PySem.W.nsIn K mainGlobals "Locked" = some (some (.ref C_Locked)))
    (t_Locked : PySem.W.typeIn K (.ref C_Locked) = some (.type "type"))
    (h_Locked : PySem.W.hasDictIn K C_Locked = true)
    (s_Locked : PySem.W.subIn K (.ref C) (.ref C_Locked) = some false)
    (n_Locked : (Value.ref C == Value.ref C_Locked) = false)
    (a_Looped : PySem.W.nsIn K mainGlobals "Looped" = some (some (.ref C_Looped)))
    (t_Looped : PySem.W.typeIn K (.ref C_Looped) = some (.type "type"))
    (h_Looped : PySem.W.hasDictIn K C_Looped = true)
    (s_Looped : PySem.W.subIn K (.ref C) (.ref C_Looped) = some false)
    (n_Looped : (Value.ref C == Value.ref C_Looped) = false)
    (a_Broken : PySem.W.nsIn K mainGlobals "Broken" = some (some (.ref C_Broken)))
    (t_Broken : PySem.W.typeIn K (.ref C_Broken) = some (.type "type"))
    (h_Broken : PySem.W.hasDictIn K C_Broken = true)
    (s_Broken : PySem.W.subIn K (.ref C) (.ref C_Broken) = some false)
    (n_Broken : (Value.ref C == Value.ref C_Broken) = false)
    (a_ReadError : PySem.W.nsIn K mainGlobals "ReadError" = some (some (.ref C_ReadError)))
    (t_ReadError : PySem.W.typeIn K (.ref C_ReadError) = some (.type "type"))
    (h_ReadError : PySem.W.hasDictIn K C_ReadError = true)
    (s_ReadError : PySem.W.subIn K (.ref C) (.ref C_ReadError) = some false)
    (n_ReadError : (Value.ref C == Value.ref C_ReadError) = false)
    (aA : PySem.W.nsIn K mainGlobals "_law_asked" = some (some (.ref gA)))
    (lA : K.lookup gA = some ⟨ocA, odA, .func (PySem.W.fnOf "_law_asked" "_law_asked" (defArgs sAsked) (defBody sAsked) (defScope sAsked) .none kVA dcA pmA anA cdA ctA), slA⟩)
    (cA : PySem.W.codeIn K cdA "_law_asked" = true)
    (kA : PySem.W.keepIn K (.ref gA) = true)
    (aL : PySem.W.nsIn K mainGlobals "law" = some (some (.ref fL)))
    (lL : K.lookup fL = some ⟨ocL, odL, .func (PySem.W.fnOf "law" "law" (defArgs sLaw) (defBody sLaw) (defScope sLaw) .none kVL dcL pmL anL (.ref cL) ctL), slL⟩)
    (cdL : PySem.W.codeIn K (.ref cL) "law" = true) :
    ∃ fd : FuncData, (∀ (s : Shared) (v : Value), BindsTo s fd ⟨[v], []⟩ [("_law_script", v)]) ∧ ∀ base : Heap, K.In base → base.Ns mainGlobals mg → ∀ Pt : Addr, LamX.TabB base mg cL Pt → FnOk P w K mg base CX0 7 fa fd ["_law_script"] (spLaw K Pt) := by
  have DRequire : Dfn K mg "require" sRequire ["well_formed", "what"] := dfn_mk X G a0 l0 c0 k0 fun _ _ _ _ _ _ us hl => match us, hl with | [_, _], _ => rfl
  have DWhole : Dfn K mg "is_whole" sWhole ["value"] := dfn_mk X G a1 l1 c1 k1 fun _ _ _ _ _ _ us hl => match us, hl with | [_], _ => rfl
  have DIsFraction : Dfn K mg "is_fraction" sIsFraction ["value"] := dfn_mk X G a2 l2 c2 k2 fun _ _ _ _ _ _ us hl => match us, hl with | [_], _ => rfl
  have DPlus : Dfn K mg "plus" sPlus ["left", "right"] := dfn_mk X G a3 l3 c3 k3 fun _ _ _ _ _ _ us hl => match us, hl with | [_, _], _ => rfl
  have DMagn : Dfn K mg "magnitude" sMagn ["value"] := dfn_mk X G a4 l4 c4 k4 fun _ _ _ _ _ _ us hl => match us, hl with | [_], _ => rfl
  have DFloor : Dfn K mg "floor_of" sFloor ["value"] := dfn_mk X G a5 l5 c5 k5 fun _ _ _ _ _ _ us hl => match us, hl with | [_], _ => rfl
  have DPart : Dfn K mg "part_of" sPart ["value"] := dfn_mk X G a6 l6 c6 k6 fun _ _ _ _ _ _ us hl => match us, hl with | [_], _ => rfl
  have DOffset : Dfn K mg "offset_of" sOffset ["value"] := dfn_mk X G a7 l7 c7 k7 fun _ _ _ _ _ _ us hl => match us, hl with | [_], _ => rfl
  have DDistance : Dfn K mg "distance_of" sDistance ["value"] := dfn_mk X G a8 l8 c8 k8 fun _ _ _ _ _ _ us hl => match us, hl with | [_], _ => rfl
  have DMixed : Dfn K mg "_law_mixed" sMixed ["_law_number", "_law_turn"] := dfn_mk X G a9 l9 c9 k9 fun _ _ _ _ _ _ us hl => match us, hl with | [_, _], _ => rfl
  have DStore : Dfn K mg "_law_store" sStore ["_law_script"] := dfn_mk X G a10 l10 c10 k10 fun _ _ _ _ _ _ us hl => match us, hl with | [_], _ => rfl
  have DTake : Dfn K mg "_law_take" sTake ["_law_store_here", "_law_many"] := dfn_mk X G a11 l11 c11 k11 fun _ _ _ _ _ _ us hl => match us, hl with | [_, _], _ => rfl
  have DPick : Dfn K mg "_law_pick" sPick ["_law_store_here", "_law_row"] := dfn_mk X G a12 l12 c12 k12 fun _ _ _ _ _ _ us hl => match us, hl with | [_, _], _ => rfl
  have DGcd : Dfn K mg "_law_gcd" sGcd ["_law_left", "_law_right"] := dfn_mk X G a13 l13 c13 k13 fun _ _ _ _ _ _ us hl => match us, hl with | [_, _], _ => rfl
  have DLowest : Dfn K mg "_law_lowest" sLowest ["_law_top", "_law_bottom"] := dfn_mk X G a14 l14 c14 k14 fun _ _ _ _ _ _ us hl => match us, hl with | [_, _], _ => rfl
  have DLPlus : Dfn K mg "_law_plus" sLPlus ["_law_left", "_law_right"] := dfn_mk X G a15 l15 c15 k15 fun _ _ _ _ _ _ us hl => match us, hl with | [_, _], _ => rfl
  have DLPart : Dfn K mg "_law_part" sLPart ["_law_value_here"] := dfn_mk X G a16 l16 c16 k16 fun _ _ _ _ _ _ us hl => match us, hl with | [_], _ => rfl
  have DLOffset : Dfn K mg "_law_offset" sLOffset ["_law_value_here"] := dfn_mk X G a17 l17 c17 k17 fun _ _ _ _ _ _ us hl => match us, hl with | [_], _ => rfl
  have DLWhole : Dfn K mg "_law_is_whole" sLWhole ["_law_told"] := dfn_mk X G a18 l18 c18 k18 fun _ _ _ _ _ _ us hl => match us, hl with | [_], _ => rfl
  have DLFrac : Dfn K mg "_law_is_frac" sLFrac ["_law_told"] := dfn_mk X G a19 l19 c19 k19 fun _ _ _ _ _ _ us hl => match us, hl with | [_], _ => rfl
  have DLFracs : Dfn K mg "_law_is_fracs" sLFracs ["_law_told"] := dfn_mk X G a20 l20 c20 k20 fun _ _ _ _ _ _ us hl => match us, hl with | [_], _ => rfl
  have DSame : Dfn K mg "_law_same" sSame ["_law_told", "_law_due"] := dfn_mk X G a21 l21 c21 k21 fun _ _ _ _ _ _ us hl => match us, hl with | [_, _], _ => rfl
  have DLInt : Dfn K mg "_law_whole" sLInt ["_law_store_here", "_law_reach"] := dfn_mk X G a22 l22 c22 k22 fun _ _ _ _ _ _ us hl => match us, hl with | [_, _], _ => rfl
  have DGreat : Dfn K mg "_law_great" sGreat ["_law_store_here"] := dfn_mk X G a23 l23 c23 k23 fun _ _ _ _ _ _ us hl => match us, hl with | [_], _ => rfl
  have DDFrac : Dfn K mg "_law_frac" sDFrac ["_law_store_here"] := dfn_mk X G a24 l24 c24 k24 fun _ _ _ _ _ _ us hl => match us, hl with | [_], _ => rfl
  have DDFracW : Dfn K mg "_law_frac_wide" sDFracW ["_law_store_here"] := dfn_mk X G a25 l25 c25 k25 fun _ _ _ _ _ _ us hl => match us, hl with | [_], _ => rfl
  have DBadFrac : Dfn K mg "_law_bad_frac" sBadFrac ["_law_store_here"] := dfn_mk X G a26 l26 c26 k26 fun _ _ _ _ _ _ us hl => match us, hl with | [_], _ => rfl
  have DDValue : Dfn K mg "_law_value" sDValue ["_law_store_here"] := dfn_mk X G a27 l27 c27 k27 fun _ _ _ _ _ _ us hl => match us, hl with | [_], _ => rfl
  have DLeaves : Dfn K mg "_law_leaves_whole" sLeaves ["_law_value_here", "_law_rest"] := dfn_mk X G a28 l28 c28 k28 fun _ _ _ _ _ _ us hl => match us, hl with | [_, _], _ => rfl
  have DHolds : Dfn K mg "_law_holds" sHolds ["_law_value_here"] := dfn_mk X G a29 l29 c29 k29 fun _ _ _ _ _ _ us hl => match us, hl with | [_], _ => rfl
  have DFraction : DfnD K mg "fraction" sFraction ["numerator", "denominator"] := by
    have FD : FunD K "fraction" "fraction" (defArgs sFraction) (defBody sFraction) (defScope sFraction) [.int 1] [] fF _ := ⟨⟨ocF, odF, _, kVF, dcF, pmF, anF, cdF, ctF, slF, rfl, lF, cF, .inr ⟨by simp, tF, _, [.int 1 tk], nT, rfl, lT, rfl, .cons ⟨tk, rfl⟩ .nil⟩, .inl rfl⟩, kF⟩
    obtain ⟨ds, hv, hb⟩ := FD.binds1 (ps := ["numerator", "denominator"]) 2 1 (by simp) rfl fun T kV doc pm an cdv ct us its hu hi => match us, its, hu, hi with
      | [u1, u2], [i1], _, _ => ⟨_, rfl, rfl⟩
    cases hv
    exact ⟨fF, _, _, FD, PySem.W.mg_of X G aF, hb⟩
  have T : Bt K mg := ⟨PySem.W.mg_none_of X G z_int, PySem.W.mg_none_of X G z_len, PySem.W.mg_none_of X G z_list, PySem.W.mg_none_of X G z_abs, PySem.W.mg_none_of X G z_range, PySem.W.mg_none_of X G z_min, PySem.W.mg_none_of X G z_max, PySem.W.mg_none_of X G z_isinstance, PySem.W.mg_none_of X G z_bool, PySem.W.mg_none_of X G z_str, PySem.W.mg_none_of X G z_dict, PySem.W.mg_none_of X G z_tuple, PySem.W.mg_of X G z_gcd⟩
  have FI := fun_mk (st := sInitB) lI cI kI
  have bI := FI.binds (ps := ["self", "what"]) fun _ _ _ _ _ _ us hl => match us, hl with | [_, _], _ => rfl
  have B : BvT K mg C := ⟨PySem.W.mg_of X G aC, ⟨⟨nm, qn, N0, bs, bm, sn, sub, ab, col, dd, m0, m1, m2, m3, m5, xL, hbm⟩, sa, eC, tC, kC⟩, nw, fI, _, aI, tI, FI, bI⟩
  have icC : (PySem.W.clsIn K C).isSome = true := by
    obtain ⟨cd, hc, _⟩ := PySem.W.any_some hC
    rw [hc]; rfl
  let A : String → Addr := fun n => if n = "Mismatch" then C_Mismatch else if n = "Still" then C_Still else if n = "Endless" then C_Endless else if n = "TooMany" then C_TooMany else if n = "NoName" then C_NoName else if n = "Taken" then C_Taken else if n = "Locked" then C_Locked else if n = "Looped" then C_Looped else if n = "Broken" then C_Broken else if n = "ReadError" then C_ReadError else C
  have kit : ∀ D : Addr, PySem.W.typeIn K (.ref D) = some (.type "type") → PySem.W.hasDictIn K D = true → PySem.W.subIn K (.ref C) (.ref D) = some false → (Value.ref C == Value.ref D) = false → PySem.W.kitOne K (.ref C) (.ref D) = some false := fun D h1 h2 h3 h4 => by
    obtain ⟨cd, hc, _⟩ := PySem.W.any_some h2
    unfold PySem.W.kitOne PySem.W.kitCls
    rw [h4, if_neg Bool.false_ne_true]
    show (if ((PySem.W.clsIn K D).isSome && PySem.W.typeIn K (.ref D) == some (.type "type")) = true then PySem.W.subIn K (.ref C) (.ref D) else none) = some false
    rw [hc, h1, if_pos (by rfl)]
    exact h3
  have AT : AskT K mg C S A := {
    sky := PySem.W.mg_of X G aS
    exm := PySem.W.exm_ref eS hS tS cS
    g := fun n hn => by
      simp only [List.mem_cons, List.not_mem_nil, or_false] at hn
      rcases hn with rfl | rfl | rfl | rfl | rfl | rfl | rfl | rfl | rfl | rfl | rfl
      · exact PySem.W.mg_of X G aC
      · exact PySem.W.mg_of X G a_Mismatch
      · exact PySem.W.mg_of X G a_Still
      · exact PySem.W.mg_of X G a_Endless
      · exact PySem.W.mg_of X G a_TooMany
      · exact PySem.W.mg_of X G a_NoName
      · exact PySem.W.mg_of X G a_Taken
      · exact PySem.W.mg_of X G a_Locked
      · exact PySem.W.mg_of X G a_Looped
      · exact PySem.W.mg_of X G a_Broken
      · exact PySem.W.mg_of X G a_ReadError
    k := fun n hn => by
      simp only [List.mem_cons, List.not_mem_nil, or_false] at hn
      rcases hn with rfl | rfl | rfl | rfl | rfl | rfl | rfl | rfl | rfl | rfl | rfl
      · show PySem.W.kitOne K (.ref C) (.ref C) = some true
        unfold PySem.W.kitOne
        rw [if_pos (by simp)]
      · exact kit C_Mismatch t_Mismatch h_Mismatch s_Mismatch n_Mismatch
      · exact kit C_Still t_Still h_Still s_Still n_Still
      · exact kit C_Endless t_Endless h_Endless s_Endless n_Endless
      · exact kit C_TooMany t_TooMany h_TooMany s_TooMany n_TooMany
      · exact kit C_NoName t_NoName h_NoName s_NoName n_NoName
      · exact kit C_Taken t_Taken h_Taken s_Taken n_Taken
      · exact kit C_Locked t_Locked h_Locked s_Locked n_Locked
      · exact kit C_Looped t_Looped h_Looped s_Looped n_Looped
      · exact kit C_Broken t_Broken h_Broken s_Broken n_Broken
      · exact kit C_ReadError t_ReadError h_ReadError s_ReadError n_ReadError
    ve := by
      unfold PySem.W.kitOne PySem.W.kitCls
      rw [if_neg (by simp)]
      show (if PySem.W.kitMeta "ValueError" = true then PySem.W.subIn K (.ref C) (.type "ValueError") else none) = some true
      rw [if_pos (by decide +kernel)]
      exact vC
    b_VE := PySem.W.mg_none_of X G z_VE
    hcl := icC
    hga := ga
    hgt := gg
    hsub := eC
    ha := gc
    hn := spc
    htk := tkc
    hm := mC
    xf := ⟨ga, gg, eC, hC⟩ }
  have FA := fun_mk (st := sAsked) lA cA kA
  have AS : AskD K mg gA ocA odA .none kVA dcA pmA anA cdA ctA slA := ⟨PySem.W.mg_of X G aA, kA, lA, cA, FA.binds (ps := ["_law_call"]) fun _ _ _ _ _ _ us hl => match us, hl with | [_], _ => rfl⟩
  refine ⟨PySem.W.fnOf "law" "law" (defArgs sLaw) (defBody sLaw) (defScope sLaw) .none kVL dcL pmL anL (.ref cL) ctL, fun s v => .of_eq rfl, fun base _ _ Pt TB => ?_⟩
  have e := hfa.symm.trans (PySem.W.mg_of X G aL)
  cases e
  have kMixed := k_Mixed (P := P) (w := w) (base := base) T DMixed
  have kTake := k_Take T DTake kMixed
  have kPick := k_Pick T DPick kTake
  have kGcd := k_Gcd (P := P) (w := w) (base := base) T DGcd
  have kLowest := k_Lowest T DLowest kGcd
  have kRequire := k_Require (P := P) (w := w) (base := base) T DRequire
  have kWhole := k_Whole (P := P) (w := w) (base := base) T DWhole
  have kLWhole := k_LWhole (P := P) (w := w) (base := base) T DLWhole
  have kFraction := k_Fraction T DFraction kRequire kWhole
  have kIsFraction := k_IsFraction T DIsFraction kWhole
  have kPlus := k_Plus T DPlus kRequire kIsFraction kFraction
  have kLPlus := k_LPlus T DLPlus kLowest
  have kFloor := k_Floor T DFloor kRequire kIsFraction
  have kPart := k_Part T DPart kRequire kIsFraction
  have kMagn := k_Magn T DMagn kRequire kIsFraction
  have kOffset := k_Offset T DOffset kRequire kIsFraction kPart
  have kDistance := k_Distance T DDistance kRequire kIsFraction kOffset kMagn
  have kLPart := k_LPart T DLPart kLowest
  have kLOffset := k_LOffset T DLOffset kLowest
  have kLFrac := k_LFrac T DLFrac kLWhole kGcd
  have kLFracs := k_LFracs T DLFracs kLFrac
  have kLeaves := k_Leaves (P := P) (w := w) (base := base) T DLeaves
  have kLInt := k_LInt T DLInt kTake
  have kGreat := k_Great T DGreat kTake
  have kDFrac := k_DFrac T DDFrac kTake kLowest
  have kDFracW := k_DFracW T DDFracW kTake kLowest kGreat kLInt kDFrac
  have kStore := k_Store (P := P) (w := w) (base := base) T DStore
  have kSame := k_same T DSame kLWhole 2
  have kBad := k_BadFrac T DBadFrac kTake kDFrac kPick
  have kValue := k_DValue T DDValue kTake kDFracW kPick kLInt kLPlus
  have kHolds := k_Holds T DHolds kFloor kPart kOffset kDistance kLWhole kLFracs kLeaves
  have xReq := kx_Require (P := P) (w := w) (base := base) B DRequire
  have F4 : Four mg f5 f6 f7 f8 := ⟨PySem.W.mg_of X G a5, PySem.W.mg_of X G a6, PySem.W.mg_of X G a7, PySem.W.mg_of X G a8⟩
  have HX : ∀ f, isFour mg f → ∃ fd ps, FnOk P w K mg base (L2.CX P w) 4 f fd ps (spBadUn K C) ∧ PySem.W.keepIn K (.ref f) = true ∧ Binds K fd ps [] := fun f hf => by
    obtain ⟨n, hn, hm⟩ := hf
    have fin : ∀ {n : Str} {ps : List Str}, mg n = some (.ref f) → KnX P w K mg base 4 n ps (spBadUn K C) → ∃ fd ps, FnOk P w K mg base (L2.CX P w) 4 f fd ps (spBadUn K C) ∧ PySem.W.keepIn K (.ref f) = true ∧ Binds K fd ps [] := fun hm k => by
      obtain ⟨f', fd, m', kp, b, F⟩ := k.ex
      rw [hm] at m'
      cases m'
      exact ⟨fd, _, F, kp, b⟩
    simp only [List.mem_cons, List.not_mem_nil, or_false] at hn
    rcases hn with rfl | rfl | rfl | rfl
    · exact fin hm (kx_Floor B DFloor xReq kIsFraction)
    · exact fin hm (kx_Part B DPart xReq kIsFraction)
    · exact fin hm (kx_Offset B DOffset xReq kIsFraction)
    · exact fin hm (kx_Distance B DDistance xReq kIsFraction)
  exact ok_law T B AT AS F4 lL cdL TB HX kStore kValue kPick kTake kPlus kLPlus kSame kLPart kLOffset kHolds kBad
end My

namespace My
open PySem PySem.Spec PyProof.Rows L2
/-- the end as the head asks for it -/
theorem law_at {l : PySem.W.OpenLaw} {w : World} {K : PySem.W.Frag} {h : Heap} {mg : Str → Option Value} {fa cL Pt : Addr} (hT : h.get? Pt = some { cls := .none, data := .fields #[] }) (nP : K.lookup Pt = none) (C : PySem.W.CodeHd h cL Pt)
    (R : ∃ fd : FuncData, (∀ (s : Shared) (v : Value), BindsTo s fd ⟨[v], []⟩ [("_law_script", v)]) ∧ ∀ base : Heap, K.In base → base.Ns mainGlobals mg → ∀ Pt : Addr, LamX.TabB base mg cL Pt → FnOk l.prog w K mg base CX0 7 fa fd ["_law_script"] (spLaw K Pt)) :
    LamX.LawAtS l w K CX0 7 63 "_law_script" mg fa h := by
  obtain ⟨fd, hb, F⟩ := R
  have one : ∀ {p : Addr × Addr} {q : Addr × Addr → Prop}, q (cL, Pt) → p ∈ [(cL, Pt)] → q p := fun {p q} h hp => by
    rw [List.mem_singleton] at hp
    rw [hp]
    exact h
  refine ⟨fd, [(cL, Pt)], spLaw K Pt, fun p hp => one (q := fun p => h.get? p.2 = _) hT hp, fun p hp => one (q := fun p => K.lookup p.2 = none) nP hp, fun p hp => one (q := fun p => PySem.W.CodeHd h p.1 p.2) C hp, hb, fun H a ns hl hbits hH hS => ?_, fun base X G TB => F base X G Pt (TB (cL, Pt) (List.mem_singleton.mpr rfl))⟩
  exact ⟨a, ns, rfl, hS, hH (cL, Pt) (List.mem_singleton.mpr rfl), fun _ => rfl⟩
theorem walk_mk {l : PySem.W.OpenLaw} {q : Program} {loose : List Str} {XP : (Str → Option Value) → Heap → Prop} {YP : World → Heap → Prop} {d : DefRec} {K : Params → PySem.W.Frag} (hn : l.most = some 63) (hdf : d.params.defaults = [])
    (hY : ∀ (w : World) (h : Heap), YP w h → (K w.params).In h)
    (F : ∀ (w : World) (mg : Str → Option Value) (fa : Addr) (h : Heap), YP w h → (K w.params).In h → h.Ns mainGlobals mg → mg d.name = some (.ref fa) → LamX.LawAtS l w (K w.params) CX0 7 63 "_law_script" mg fa h) :
    PySem.W.WalkO q loose XP YP l.row.toRowW d [] (fun f vs => PySem.call f vs) :=
  LamX.walk_ofTs (CX := fun _ => CX0) hn (by decide) hdf ⟨rfl, by decide, by decide⟩ hY F fun _ _ _ _ _ z => z
end My
open PySem PySem.W PyProof.Rows
set_option maxRecDepth 100000 in
set_option maxHeartbeats 0 in
theorem PySem.Challenge.cw_wheelsky_k02_floor_part_offset_holds : PySem.Challenge.rw_wheelsky_k02_floor_part_offset.Holds := by
  w_on; o_law; k_head; (case hw => w_witness2)
  k_fill
  refine My.walk_mk (l := PySem.Challenge.rw_wheelsky_k02_floor_part_offset) rfl rfl (fun w h Y => km_in_of Y) ?F
  case F =>
    intro w mg fa h Y KX G hmg
    refine' My.law_at (Pt := 456) (km_tabs_of Y 456 (by k_mem)) ?nP ?cH (My.all_mk KX G hmg ?a0 ?l0 ?c0 ?k0 ?a1 ?l1 ?c1 ?k1 ?a2 ?l2 ?c2 ?k2 ?a3 ?l3 ?c3 ?k3 ?a4 ?l4 ?c4 ?k4 ?a5 ?l5 ?c5 ?k5 ?a6 ?l6 ?c6 ?k6 ?a7 ?l7 ?c7 ?k7 ?a8 ?l8 ?c8 ?k8 ?a9 ?l9 ?c9 ?k9 ?a10 ?l10 ?c10 ?k10 ?a11 ?l11 ?c11 ?k11 ?a12 ?l12 ?c12 ?k12 ?a13 ?l13 ?c13 ?k13 ?a14 ?l14 ?c14 ?k14 ?a15 ?l15 ?c15 ?k15 ?a16 ?l16 ?c16 ?k16 ?a17 ?l17 ?c17 ?k17 ?a18 ?l18 ?c18 ?k18 ?a19 ?l19 ?c19 ?k19 ?a20 ?l20 ?c20 ?k20 ?a21 ?l21 ?c21 ?k21 ?a22 ?l22 ?c22 ?k22 ?a23 ?l23 ?c23 ?k23 ?a24 ?l24 ?c24 ?k24 ?a25 ?l25 ?c25 ?k25 ?a26 ?l26 ?c26 ?k26 ?a27 ?l27 ?c27 ?k27 ?a28 ?l28 ?c28 ?k28 ?a29 ?l29 ?c29 ?k29 ?aF ?lF ?cF ?kF ?lT ?z_int ?z_len ?z_list ?z_abs ?z_range ?z_min ?z_max ?z_isinstance ?z_bool ?z_str ?z_dict ?z_tuple ?z_gcd ?z_VE ?aC ?aS ?xL ?hbm ?sa ?ga ?gg ?gc ?nw ?aI ?tI ?lI ?cI ?kI ?kC ?eC ?tC ?hC ?mC ?vC ?spc ?tkc ?eS ?hS ?tS ?cS ?a_Mismatch ?t_Mismatch ?h_Mismatch ?s_Mismatch ?n_Mismatch ?a_Still ?t_Still ?h_Still ?s_Still ?n_Still ?a_Endless ?t_Endless ?h_Endless ?s_Endless ?n_Endless ?a_TooMany ?t_TooMany ?h_TooMany ?s_TooMany ?n_TooMany ?a_NoName ?t_NoName ?h_NoName ?s_NoName ?n_NoName ?a_Taken ?t_Taken ?h_Taken ?s_Taken ?n_Taken ?a_Locked ?t_Locked ?h_Locked ?s_Locked ?n_Locked ?a_Looped ?t_Looped ?h_Looped ?s_Looped ?n_Looped ?a_Broken ?t_Broken ?h_Broken ?s_Broken ?n_Broken ?a_ReadError ?t_ReadError ?h_ReadError ?s_ReadError ?n_ReadError ?aA ?lA ?cA ?kA ?aL ?lL ?cdL)
    (case a0 => k_is); (case l0 => k_is); (case c0 => k_is); (case k0 => k_is); (case a1 => k_is); (case l1 => k_is); (case c1 => k_is); (case k1 => k_is)
    (case a2 => k_is); (case l2 => k_is); (case c2 => k_is); (case k2 => k_is); (case a3 => k_is); (case l3 => k_is); (case c3 => k_is); (case k3 => k_is)
    (case a4 => k_is); (case l4 => k_is); (case c4 => k_is); (case k4 => k_is); (case a5 => k_is); (case l5 => k_is); (case c5 => k_is); (case k5 => k_is)
    (case a6 => k_is); (case l6 => k_is); (case c6 => k_is); (case k6 => k_is); (case a7 => k_is); (case l7 => k_is); (case c7 => k_is); (case k7 => k_is)
    (case a8 => k_is); (case l8 => k_is); (case c8 => k_is); (case k8 => k_is); (case a9 => k_is); (case l9 => k_is); (case c9 => k_is); (case k9 => k_is)
    (case a10 => k_is); (case l10 => k_is); (case c10 => k_is); (case k10 => k_is); (case a11 => k_is); (case l11 => k_is); (case c11 => k_is); (case k11 => k_is)
    (case a12 => k_is); (case l12 => k_is); (case c12 => k_is); (case k12 => k_is); (case a13 => k_is); (case l13 => k_is); (case c13 => k_is); (case k13 => k_is)
    (case a14 => k_is); (case l14 => k_is); (case c14 => k_is); (case k14 => k_is); (case a15 => k_is); (case l15 => k_is); (case c15 => k_is); (case k15 => k_is)
    (case a16 => k_is); (case l16 => k_is); (case c16 => k_is); (case k16 => k_is); (case a17 => k_is); (case l17 => k_is); (case c17 => k_is); (case k17 => k_is)
    (case a18 => k_is); (case l18 => k_is); (case c18 => k_is); (case k18 => k_is); (case a19 => k_is); (case l19 => k_is); (case c19 => k_is); (case k19 => k_is)
    (case a20 => k_is); (case l20 => k_is); (case c20 => k_is); (case k20 => k_is); (case a21 => k_is); (case l21 => k_is); (case c21 => k_is); (case k21 => k_is)
    (case a22 => k_is); (case l22 => k_is); (case c22 => k_is); (case k22 => k_is); (case a23 => k_is); (case l23 => k_is); (case c23 => k_is); (case k23 => k_is)
    (case a24 => k_is); (case l24 => k_is); (case c24 => k_is); (case k24 => k_is); (case a25 => k_is); (case l25 => k_is); (case c25 => k_is); (case k25 => k_is)
    (case a26 => k_is); (case l26 => k_is); (case c26 => k_is); (case k26 => k_is); (case a27 => k_is); (case l27 => k_is); (case c27 => k_is); (case k27 => k_is)
    (case a28 => k_is); (case l28 => k_is); (case c28 => k_is); (case k28 => k_is); (case a29 => k_is); (case l29 => k_is); (case c29 => k_is); (case k29 => k_is)
    (case aF => k_is); (case lF => k_is); (case cF => k_is); (case kF => k_is); (case lT => k_is); (case z_int => k_is); (case z_len => k_is); (case z_list => k_is)
    (case z_abs => k_is); (case z_range => k_is); (case z_min => k_is); (case z_max => k_is); (case z_isinstance => k_is); (case z_bool => k_is); (case z_str => k_is); (case z_dict => k_is)
    (case z_tuple => k_is); (case z_gcd => k_is); (case z_VE => k_is); (case aC => k_is); (case aS => k_is); (case xL => k_is); (case hbm => decide +kernel); (case sa => k_is)
    (case ga => k_is); (case gg => k_is); (case gc => k_is); (case nw => k_is); (case aI => k_is); (case tI => k_is); (case lI => k_is); (case cI => k_is)
    (case kI => k_is); (case kC => k_is); (case eC => k_is); (case tC => k_is); (case hC => k_is); (case mC => k_is); (case vC => k_is); (case spc => k_is)
    (case tkc => k_is); (case eS => k_is); (case hS => k_is); (case tS => k_is); (case cS => k_is); (case a_Mismatch => k_is); (case t_Mismatch => k_is); (case h_Mismatch => k_is)
    (case s_Mismatch => k_is); (case n_Mismatch => decide +kernel); (case a_Still => k_is); (case t_Still => k_is); (case h_Still => k_is); (case s_Still => k_is); (case n_Still => decide +kernel); (case a_Endless => k_is)
    (case t_Endless => k_is); (case h_Endless => k_is); (case s_Endless => k_is); (case n_Endless => decide +kernel); (case a_TooMany => k_is); (case t_TooMany => k_is); (case h_TooMany => k_is); (case s_TooMany => k_is)
    (case n_TooMany => decide +kernel); (case a_NoName => k_is); (case t_NoName => k_is); (case h_NoName => k_is); (case s_NoName => k_is); (case n_NoName => decide +kernel); (case a_Taken => k_is); (case t_Taken => k_is)
    (case h_Taken => k_is); (case s_Taken => k_is); (case n_Taken => decide +kernel); (case a_Locked => k_is); (case t_Locked => k_is); (case h_Locked => k_is); (case s_Locked => k_is); (case n_Locked => decide +kernel)
    (case a_Looped => k_is); (case t_Looped => k_is); (case h_Looped => k_is); (case s_Looped => k_is); (case n_Looped => decide +kernel); (case a_Broken => k_is); (case t_Broken => k_is); (case h_Broken => k_is)
    (case s_Broken => k_is); (case n_Broken => decide +kernel); (case a_ReadError => k_is); (case t_ReadError => k_is); (case h_ReadError => k_is); (case s_ReadError => k_is); (case n_ReadError => decide +kernel); (case aA => k_is)
    (case lA => k_is); (case cA => k_is); (case kA => k_is); (case aL => k_is); (case lL => k_is); (case cdL => k_is)
    (case cH => exact codeHd_of_K KX (by kernel_rfl))
    (case nP => kernel_rfl)
