import PyProof.Rows.All
import Wide.All
import OpenK.AllK
import Wide.FinOn
import HandS.ForMost
import HandS.Wide
import HandS.Codes
import HandS.SetFor
import HandS.IsInst
import KE.GoesMore
import KE.GoesEnum
import HandS.Walk
import KE.DataMinMax
import KE.GoesRev
import KE.SortData
import HandS.More
import HandS.Style
import HandS.Rev
import HandS.TupMul
import HandS.DictComp
import HandS.Sort
import HandS.Comp
import HandS.Zip
import HandS.ForExc
import HandS.ExcInit
import HandS.ExcField
import HandS.TryMany
import HandS.HeadHook1
import HandS.HeadHook2
import HandS.HeadEnd
import HandS.ExcIs
import HandS.ExcValue
import KE.KExcIs
import KE.KEqDict
import PyProof.NeKinds
import HandS.Set
import PyProof.SetKind
import HandS.SetBool
import HandS.Iter
import HandS.Property
import KE.KDictKeyed
import PyProof.EqKinds
import HandS.Defaults
import HandS.Head0
import HandS.Head1
import HandS.Head2
import KE.KDictDisplayH
import HandS.DeepEq
import HandS.Finally
import KE.KEqNest
import HandS.OwnEq
import PyProof.InstNe
import HandS.Text
import PyProof.StrOps2
import HandS.MapJoin
import PySem.Challenge.RW_hintslie_k55_posts_of_styles
import HandS.TryOnly
set_option Elab.async false
set_option linter.all false
set_option maxRecDepth 100000
set_option maxHeartbeats 4000000
namespace Toy
open PySem PySem.Spec PyProof.Rows L2
section
variable {P : Program} {w : World} {K : PySem.W.Frag} {mg : Str → Option Value} {base : Heap}
structure DefAt (K : PySem.W.Frag) (mg : Str → Option Value) (x : Str) (st : Stmt) (ps : List Str) : Prop where
  h : ∃ (f : Addr) (fd : FuncData), mg x = some (.ref f) ∧ Fun K x x st f fd ∧ Binds K fd ps []
/-- what a caller has of a def -/
def Ok (P : Program) (w : World) (K : PySem.W.Frag) (mg : Str → Option Value) (base : Heap) (k : Nat) (x : Str) (ps : List Str) (sp : Sp) : Prop :=
  ∃ (f : Addr) (fd : FuncData), mg x = some (.ref f) ∧ PySem.W.keepIn K (.ref f) = true ∧ Binds K fd ps [] ∧ FnOk P w K mg base CX0 k f fd ps sp
theorem ok_of {x : Str} {st : Stmt} {N ps : List Str} {k : Nat} {sp : Sp} (D : DefAt K mg x st ps) (S : FnScope N ps (defScope st)) (len : ∀ vs H Q E, sp vs H Q E → vs.length = ps.length)
    (hbody : ∀ (f : Addr) (cdv : Value) (A : Around) (outer : List Env) (s : Shared) (H : Hp) (vs : List V) (Q : VK) (E : XK), Room k (A.deeper (envOfC x (defScope st) s.heap.objs.size f cdv)) → sp vs H Q E →
      ∃ t, PSs (cxOf CX0 P w K mg base N x (defScope st) f cdv A outer s H E).nox (defBody st) t ∧ t { nx := fun _ H' => Q .non H', rt := Q } (start N vs) H) : Ok P w K mg base (k + 1) x ps sp := by
  obtain ⟨f, fd, m, F, b⟩ := D.h
  exact ⟨f, fd, m, F.kp, b, F.ok S len fun cdv A outer s H vs Q E hr h => hbody f cdv A outer s H vs Q E hr h⟩
structure ClsInit (K : PySem.W.Frag) (C : Addr) (qual : Str) (st : Stmt) (ps : List Str) : Prop where
  h : ∃ (f : Addr) (fd : FuncData), Mk K C f ∧ Fun K "__init__" qual st f fd ∧ Binds K fd ps []
structure MethAt (K : PySem.W.Frag) (C : Addr) (m qual : Str) (st : Stmt) (ps : List Str) : Prop where
  h : ∃ (f : Addr) (fd : FuncData), Meth K C m f ∧ Fun K m qual st f fd ∧ Binds K fd ps []
def OkI (P : Program) (w : World) (K : PySem.W.Frag) (mg : Str → Option Value) (base : Heap) (CX : CXT) (k : Nat) (x : Str) (C : Addr) (ps : List Str) (sp : Sp) : Prop :=
  ∃ (f : Addr) (fd : FuncData), mg x = some (.ref C) ∧ Mk K C f ∧ Binds K fd ps [] ∧ FnOk P w K mg base CX k f fd ps sp
def OkM (P : Program) (w : World) (K : PySem.W.Frag) (mg : Str → Option Value) (base : Heap) (CX : CXT) (k : Nat) (C : Addr) (m : Str) (ps : List Str) (sp : Sp) : Prop :=
  ∃ (f : Addr) (fd : FuncData), Meth K C m f ∧ Binds K fd ps [] ∧ FnOk P w K mg base CX k f fd ps sp
theorem okI_of {x qual : Str} {C : Addr} {st : Stmt} {N ps : List Str} {k : Nat} {sp : Sp} (hm : mg x = some (.ref C)) (D : ClsInit K C qual st ps) (S : FnScope N ps (defScope st)) (len : ∀ vs H Q E, sp vs H Q E → vs.length = ps.length)
    (hbody : ∀ (f : Addr) (cdv : Value) (A : Around) (outer : List Env) (s : Shared) (H : Hp) (vs : List V) (Q : VK) (E : XK), Room k (A.deeper (envOfC qual (defScope st) s.heap.objs.size f cdv)) → sp vs H Q E →
      ∃ t, PSs (cxOf CX0 P w K mg base N qual (defScope st) f cdv A outer s H E).nox (defBody st) t ∧ t { nx := fun _ H' => Q .non H', rt := Q } (start N vs) H) : OkI P w K mg base CX0 (k + 1) x C ps sp := by
  obtain ⟨f, fd, M, F, b⟩ := D.h
  exact ⟨f, fd, hm, M, b, F.ok S len fun cdv A outer s H vs Q E hr h => hbody f cdv A outer s H vs Q E hr h⟩
theorem okM_of {m qual : Str} {C : Addr} {st : Stmt} {N ps : List Str} {k : Nat} {sp : Sp} (D : MethAt K C m qual st ps) (S : FnScope N ps (defScope st)) (len : ∀ vs H Q E, sp vs H Q E → vs.length = ps.length)
    (hbody : ∀ (f : Addr) (cdv : Value) (A : Around) (outer : List Env) (s : Shared) (H : Hp) (vs : List V) (Q : VK) (E : XK), Room k (A.deeper (envOfC qual (defScope st) s.heap.objs.size f cdv)) → sp vs H Q E →
      ∃ t, PSs (cxOf CX0 P w K mg base N qual (defScope st) f cdv A outer s H E).nox (defBody st) t ∧ t { nx := fun _ H' => Q .non H', rt := Q } (start N vs) H) : OkM P w K mg base CX0 (k + 1) C m ps sp := by
  obtain ⟨f, fd, M, F, b⟩ := D.h
  exact ⟨f, fd, M, b, F.ok S len fun cdv A outer s H vs Q E hr h => hbody f cdv A outer s H vs Q E hr h⟩
end
/-! heaps that keep all but one object -/
def Keep (d : Addr) (H H' : Hp) : Prop := ∀ b o, b ≠ d → H b = some o → H' b = some o
theorem Keep.refl (d : Addr) (H : Hp) : Keep d H H := fun _ _ _ h => h
theorem Keep.trans {d : Addr} {H H1 H2 : Hp} (a : Keep d H H1) (b : Keep d H1 H2) : Keep d H H2 := fun c o n h => b c o n (a c o n h)
theorem Keep.same {d : Addr} {H H1 H2 : Hp} (a : Keep d H H1) (b : Same H1 H2) : Keep d H H2 := fun c o n h => b c o (a c o n h)
theorem same_keep {d : Addr} {H H1 : Hp} (a : Same H H1) : Keep d H H1 := fun c o n h => a c o h
theorem Keep.free {d l : Addr} {H H' : Hp} (e : Keep d H H') (n : l ≠ d) (h : H' l = none) : H l = none := by
  cases q : H l with
  | none => rfl
  | some o => rw [e l o n q] at h; cases h
theorem same_new {H : Hp} {p : Addr} {o : HO} (h : H p = none) : Same H (upd H p o) := fun b u e => by
  rw [upd_ne (ne_of_none e h)]; exact e
theorem Keep.upd {d : Addr} {H : Hp} {o : HO} : Keep d H (upd H d o) := fun b u n e => by
  rw [upd_ne n]; exact e
theorem yesT {σ : L2.St} {H : Hp} {A B : Hp → Prop} (h : A H) : tYes σ H (fun b H3 => if b = true then A H3 else B H3) := by
  show (fun b H3 => if b = true then A H3 else B H3) true H
  exact iteT h
/-! what is drawn from: the list at d (a number, a count, whether it is a great one) -/
structure Dice (c : Addr) (H : Hp) (d : Addr) : Prop where
  ex : ∃ (n i : Int) (b : Bool) (s t : Int), H d = some (.lst [.int n, .int i, .bl b]) ∧ c = d ∧ 0 ≤ n ∧ 0 ≤ i
section
variable {H H' : Hp} {d c p : Addr} {o : HO}
theorem Dice.some (D : Dice c H d) : ∃ o, H d = some o := by
  obtain ⟨n, i, b, s, t, h, _⟩ := D.ex
  exact ⟨_, h⟩
theorem Dice.same (D : Dice c H d) (e : Same H H') : Dice c H' d := by
  obtain ⟨n, i, b, s, t, h, r⟩ := D.ex
  exact ⟨n, i, b, s, t, e _ _ h, r⟩
theorem Dice.ne (D : Dice c H d) (h : H p = none) : p ≠ d := by
  obtain ⟨o, e⟩ := D.some
  intro z; subst z; rw [e] at h; cases h
theorem Dice.nc (D : Dice c H d) (h : H p = none) : p ≠ c := by
  obtain ⟨m, i, b, s, t, e, hc, r⟩ := D.ex
  rw [hc]
  exact D.ne h
theorem Dice.upd (D : Dice c H d) (n : p ≠ d) (m : p ≠ c) : Dice c (upd H p o) d := by
  obtain ⟨x, i, b, s, t, e, r⟩ := D.ex
  exact ⟨x, i, b, s, t, (upd_ne n.symm).trans e, r⟩
theorem Dice.tup {xs : List V} (D : Dice c H d) (h : H p = .some (.tup xs)) : p ≠ d := by
  obtain ⟨cells, i, b, s, t, e, _⟩ := D.ex
  exact ne_of h e (by intro z; cases z)
theorem Dice.dK {xs : List (Key × V)} (D : Dice c H d) (h : H p = .some (.dK xs)) : p ≠ d := by
  obtain ⟨cells, i, b, s, t, e, _⟩ := D.ex
  exact ne_of h e (by intro z; cases z)
theorem Keep.tup {xs : List V} (k : Keep d H H') (D : Dice c H d) (h : H p = .some (.tup xs)) : H' p = .some (.tup xs) := k _ _ (D.tup h) h
theorem Keep.mut (k : Keep d H H') (h : H p = none) : Keep d H (L2.upd H' p o) := fun b u n e => by
  rw [upd_ne (ne_of_none e h)]; exact k b u n e
end
def spDice (K : PySem.W.Frag) : Sp := fun vs H Q _ => ∃ (a : Addr) (ns : List Int), vs = [.ref a] ∧ SqL K H a (ns.map V.int) ∧ ns.length ≤ 63 ∧
  ∀ d c H', Same H H' → H d = none → H c = none → Dice c H' d → Q (.ref d) H'
def spDraw : Sp := fun vs H Q _ => ∃ (d c : Addr) (n : Int), vs = [.ref d, .int n] ∧ Dice c H d ∧ 0 < n ∧ n.natAbs < 2 ^ 100 ∧
  ∀ v H', 0 ≤ v → v < n → Keep d H H' → Dice c H' d → Q (.int v) H'
/-! words -/
def abc : Str := "abcdefghijklmnopqrstuvwxyz"
structure Low (z : Str) : Prop where
  c : ∀ x ∈ z.cps.toList, 97 ≤ x ∧ x ≤ 122
structure Name (m : Int) (z : Str) : Prop where
  lo : 1 ≤ z.length
  hi : (z.length : Int) ≤ m
  low : Low z
theorem abc_at : ∀ i : Nat, i < 26 → ∃ c, abc.cps[i]? = some c ∧ 97 ≤ c ∧ c ≤ 122 := by
  have h : ∀ i : _root_.Fin 26, ∃ c, abc.cps[i.val]? = some c ∧ 97 ≤ c ∧ c ≤ 122 := by
    have e : abc.cps = #[97,98,99,100,101,102,103,104,105,106,107,108,109,110,111,112,113,114,115,116,117,118,119,120,121,122] := by decide +kernel
    intro i
    refine ⟨97 + i.val, ?_, by omega, by omega⟩
    rw [e]
    revert i
    decide
  exact fun i hi => h ⟨i, hi⟩
theorem abc_len : abc.length = 26 := by decide +kernel
theorem Low.app {z : Str} {c : Nat} (h : Low z) (a : 97 ≤ c) (b : c ≤ 122) : Low (z ++ ⟨#[c]⟩) := ⟨fun x hx => by
  have e : (z ++ (⟨#[c]⟩ : Str)).cps = z.cps ++ #[c] := rfl
  rw [e, Array.toList_append] at hx
  rcases List.mem_append.mp hx with q | q
  · exact h.c x q
  · rw [List.mem_singleton.mp q]; exact ⟨a, b⟩⟩
theorem len_app (z : Str) (c : Nat) : (z ++ (⟨#[c]⟩ : Str)).length = z.length + 1 := PySem.Str.length_append z ⟨#[c]⟩
def spWord : Sp := fun vs H Q _ => ∃ (d c : Addr) (n : Int), vs = [.ref d, .int n] ∧ Dice c H d ∧ 0 < n ∧ n ≤ 1000 ∧
  ∀ z H', Name n z → Keep d H H' → Dice c H' d → Q (.str z) H'
end Toy

namespace Toy
open PySem PySem.Spec PyProof.Rows L2
/-! pairs of lists -/
theorem prd_at1 {α β : Type} {F : α → β → Prop} : ∀ {xs : List α} {ys : List β} {i : Nat} {x : α}, Paired F xs ys → xs[i]? = some x → ∃ y, ys[i]? = some y ∧ F x y
  | _, _, _, _, .nil, e => by simp at e
  | _, _, 0, _, .cons r _, e => by simp at e; subst e; exact ⟨_, rfl, r⟩
  | _, _, i + 1, x, .cons _ t, e => by
    obtain ⟨y, h1, h2⟩ := prd_at1 (i := i) (x := x) t (by simpa using e)
    exact ⟨y, by simpa using h1, h2⟩
theorem prd_at2 {α β : Type} {F : α → β → Prop} : ∀ {xs : List α} {ys : List β} {i : Nat} {y : β}, Paired F xs ys → ys[i]? = some y → ∃ x, xs[i]? = some x ∧ F x y
  | _, _, _, _, .nil, e => by simp at e
  | _, _, 0, _, .cons r _, e => by simp at e; subst e; exact ⟨_, rfl, r⟩
  | _, _, i + 1, x, .cons _ t, e => by
    obtain ⟨y, h1, h2⟩ := prd_at2 (i := i) (y := x) t (by simpa using e)
    exact ⟨y, by simpa using h1, h2⟩
theorem prd_imp {α β : Type} {F G : α → β → Prop} : ∀ {xs : List α} {ys : List β}, Paired F xs ys → (∀ a b, F a b → G a b) → Paired G xs ys
  | _, _, .nil, _ => .nil
  | _, _, .cons r t, f => .cons (f _ _ r) (prd_imp t f)
theorem prd_len {α β : Type} {F : α → β → Prop} {xs : List α} {ys : List β} (h : Paired F xs ys) : xs.length = ys.length := PySem.Paired.length h
/-! what stands: tuples of ints, of ints or None, tuples of these, dicts of these -/
def vO : Option Int → V
  | some i => .int i
  | none => .non
def IntT (H : Hp) (v : V) (xs : List Int) : Prop := ∃ a, v = .ref a ∧ H a = some (.tup (xs.map V.int))
def OptT (H : Hp) (v : V) (xs : List (Option Int)) : Prop := ∃ a, v = .ref a ∧ H a = some (.tup (xs.map vO))
def TupT {α : Type} (R : Hp → V → α → Prop) (H : Hp) (v : V) (xs : List α) : Prop := ∃ a vs, v = .ref a ∧ H a = some (.tup vs) ∧ Paired (R H) vs xs
/-- what Keep and Same keep -/
def Firm {α : Type} (R : Hp → V → α → Prop) : Prop := ∀ (H H' : Hp) v x, (∀ a xs, H a = some (.tup xs) → H' a = some (.tup xs)) → R H v x → R H' v x
theorem same_tups {H H' : Hp} (k : Same H H') : ∀ a xs, H a = some (.tup xs) → H' a = some (.tup xs) := fun _ _ h => k _ _ h
theorem keep_tups {c d : Addr} {H H' : Hp} (k : Keep d H H') (D : Dice c H d) : ∀ a xs, H a = some (.tup xs) → H' a = some (.tup xs) := fun _ _ h => k.tup D h
theorem IntT.firm : Firm IntT := fun _ _ _ _ k ⟨a, e, h⟩ => ⟨a, e, k _ _ h⟩
theorem OptT.firm : Firm OptT := fun _ _ _ _ k ⟨a, e, h⟩ => ⟨a, e, k _ _ h⟩
theorem TupT.firm {α : Type} {R : Hp → V → α → Prop} (f : Firm R) : Firm (TupT R) := fun H H' _ _ k ⟨a, vs, e, h, p⟩ => ⟨a, vs, e, k _ _ h, prd_imp p fun x y r => f _ _ x y k r⟩
/-- a dict of texts to such -/
def DctOf {α : Type} (R : Hp → V → α → Prop) (H : Hp) (kvs : List (Key × V)) (rs : List (Str × α)) : Prop := Paired (fun (kv : Key × V) (p : Str × α) => kv.1 = .inr p.1 ∧ R H kv.2 p.2) kvs rs
theorem DctOf.firm {α : Type} {R : Hp → V → α → Prop} (f : Firm R) {H H' : Hp} {kvs : List (Key × V)} {rs : List (Str × α)} (k : ∀ a xs, H a = some (.tup xs) → H' a = some (.tup xs)) (h : DctOf R H kvs rs) : DctOf R H' kvs rs :=
  prd_imp h fun x y r => ⟨r.1, f H H' _ _ k r.2⟩
theorem dct_none {α : Type} {R : Hp → V → α → Prop} {H : Hp} {z : Str} : ∀ {kvs : List (Key × V)} {rs : List (Str × α)}, DctOf R H kvs rs → ¬ z ∈ rs.map (·.1) → valV kvs (.inr z : Key) = none
  | _, _, .nil, _ => rfl
  | kv :: kvs, p :: rs, .cons r t, h => by
    have e : ¬ kv.1 = (.inr z : Key) := fun q => h (by
      rw [r.1] at q; cases q
      exact List.mem_cons_self)
    rw [valV_neg e]
    exact dct_none t fun m => h (List.mem_cons_of_mem _ m)
theorem dct_some {α : Type} {R : Hp → V → α → Prop} {H : Hp} {z : Str} {x : α} : ∀ {kvs : List (Key × V)} {rs : List (Str × α)}, DctOf R H kvs rs → (rs.map (·.1)).Nodup → (z, x) ∈ rs → ∃ v, valV kvs (.inr z : Key) = some v ∧ R H v x
  | _, _, .nil, _, h => by cases h
  | kv :: kvs, p :: rs, .cons r t, nd, h => by
    rw [List.map_cons] at nd
    obtain ⟨n1, n2⟩ := List.nodup_cons.mp nd
    rcases List.mem_cons.mp h with e | h
    · subst e
      exact ⟨kv.2, valV_pos r.1, r.2⟩
    · have e : ¬ kv.1 = (.inr z : Key) := fun q => n1 (by
        rw [r.1] at q
        have q : p.1 = z := Sum.inr.inj q
        rw [q]
        exact List.mem_map.mpr ⟨(z, x), h, rfl⟩)
      rw [valV_neg e]
      exact dct_some t n2 h
theorem dct_len {α : Type} {R : Hp → V → α → Prop} {H : Hp} {kvs : List (Key × V)} {rs : List (Str × α)} (h : DctOf R H kvs rs) : kvs.length = rs.length := prd_len h
/-! in, count -/
theorem inV_str (z : Str) : ∀ zs : List Str, inV (.str z) (zs.map V.str) = decide (z ∈ zs)
  | [] => rfl
  | y :: zs => by
    have ih := inV_str z zs
    unfold inV at ih ⊢
    rw [List.map_cons, List.any_cons, ih]
    show ((y == z) || decide (z ∈ zs)) = decide (z ∈ y :: zs)
    by_cases e : y = z
    · subst e; simp
    · have e' : ¬ z = y := fun q => e q.symm
      simp [e, e']
theorem flat_str (zs : List Str) : (zs.map V.str).all flatV = true := by
  rw [List.all_eq_true]; intro x hx; obtain ⟨z, _, rfl⟩ := List.mem_map.mp hx; rfl
theorem flat_vO (zs : List (Option Int)) : (zs.map vO).all flatV = true := by
  rw [List.all_eq_true]; intro x hx; obtain ⟨z, _, rfl⟩ := List.mem_map.mp hx; cases z <;> rfl
theorem count_eqU {x : V} : ∀ {xs : List V} {us : List Value}, Vals xs us → xs.all flatV = true → us.countP (eqU x) = xs.countP fun y => eqV y x
  | _, _, .nil, _ => rfl
  | y :: xs, u :: us, .cons r t, f => by
    rw [List.all_cons, Bool.and_eq_true] at f
    rw [List.countP_cons, List.countP_cons, eqU_of r f.1, count_eqU t f.2]
section
variable {X : Cx}
def rCntV (K : PySem.W.Frag) : V → List V → Hp → VK → Prop := fun x xs H Q => ∃ (p : Addr) (ys : List V) (k : V), x = .ref p ∧ xs = [k] ∧ SqL K H p ys ∧ ys.all flatV = true ∧ flatV k = true ∧ Q (.int ((ys.countP fun y => eqV y k) : Nat)) H
theorem mt_countV : MtR X "list.count" (rCntV X.K) := by
  intro pins s σ H x xs v us Q I rx rxs h
  obtain ⟨p, ys, k, rfl, rfl, hs, fs, fk, q⟩ := h
  cases rx
  obtain ⟨u, rfl, ru⟩ := rxs.one
  obtain ⟨its, rv, ⟨⟨cls, dd, data, sl⟩, n, ho, hc, hdn, hd⟩, hlen⟩ := I.list hs
  simp only at hc hd
  subst hc hd
  refine call_meets PySem.F.slot_list_count ⟨_, ho, rfl⟩ PySem.F.entry_list_count (PySem.F.args_list_count_2 _ _)
    (SeqAt.list_countAt p its.toArray n dd sl u (eqU k)) ⟨ho, fun y hy => mem_eqAt ru fk rv fs y (by simpa using hy), ?_⟩
  have ec : its.toArray.toList.countP (eqU k) = ys.countP fun y => eqV y k := count_eqU rv fs
  refine ⟨.int ((ys.countP fun y => eqV y k) : Nat), H, I.tok _, ⟨s.toks, ?_⟩, q⟩
  rw [ec]
end
theorem cnt_non : ∀ zs : List (Option Int), ((zs.map vO).countP fun y => eqV y .non) = zs.countP fun y => y.isNone
  | [] => rfl
  | z :: zs => by
    rw [List.map_cons, List.countP_cons, List.countP_cons, cnt_non zs]
    cases z <;> rfl
/-! what the drawing defs promise -/
def spNames : Sp := fun vs H Q _ => ∃ (d c : Addr) (n m : Int), vs = [.ref d, .int n, .int m] ∧ Dice c H d ∧ 0 < n ∧ n ≤ 1000 ∧ 0 < m ∧ m ≤ 1000 ∧
  ∀ (l : Addr) (zs : List Str) (H' : Hp), H l = none → H' l = some (.lst (zs.map V.str)) → zs.Nodup → 1 ≤ zs.length → (zs.length : Int) ≤ n → (∀ z ∈ zs, Name m z) → Keep d H H' → Dice c H' d → Q (.ref l) H'
structure Square (n top : Int) (rows : List (List Int)) : Prop where
  len : (rows.length : Int) = n
  row : ∀ r ∈ rows, (r.length : Int) = n ∧ ∀ x ∈ r, 0 ≤ x ∧ x ≤ top
  diag : ∀ (i : Nat) r, rows[i]? = some r → r[i]? = some 0
def spMoves : Sp := fun vs H Q _ => ∃ (d c : Addr) (n top : Int), vs = [.ref d, .int n, .int top] ∧ Dice c H d ∧ 0 < n ∧ n ≤ 1000 ∧ 0 ≤ top ∧ top ≤ 1000 ∧
  ∀ v rows H', TupT IntT H' v rows → Square n top rows → Keep d H H' → Dice c H' d → Q v H'
structure Prices (n top : Int) (row : List (Option Int)) : Prop where
  len : (row.length : Int) = n
  rng : ∀ x, some x ∈ row → 0 ≤ x ∧ x ≤ top
  some : ∃ x, some x ∈ row
def spPrices : Sp := fun vs H Q _ => ∃ (d c : Addr) (n top : Int), vs = [.ref d, .int n, .int top] ∧ Dice c H d ∧ 0 < n ∧ n ≤ 1000 ∧ 0 ≤ top ∧ top ≤ 1000 ∧
  ∀ v row H', OptT H' v row → Prices n top row → Keep d H H' → Dice c H' d → Q v H'
def spRequests (K : PySem.W.Frag) : Sp := fun vs H Q _ => ∃ (d c l : Addr) (zs : List Str) (n top : Int), vs = [.ref d, .ref l, .int n, .int top] ∧ Dice c H d ∧ H l = some (.lst (zs.map V.str)) ∧ zs.length ≤ 1000 ∧ l ≠ d ∧ zs.Nodup ∧ 0 < n ∧ n ≤ 1000 ∧ 0 ≤ top ∧ top ≤ 1000 ∧
  ∀ p kvs rs H', H p = none → H' p = some (.dK kvs) → DctOf OptT H' kvs rs → rs.map (·.1) = zs → (∀ q ∈ rs, Prices n top q.2) → Keep d H H' → Dice c H' d → Q (.ref p) H'
end Toy

namespace Toy
open PySem PySem.Spec PyProof.Rows L2
/-! enumerate of a tuple -/
set_option maxHeartbeats 2000000 in
theorem meets_enum1 {v : Value} {o : Obj} {G : Heap → Prop} (B : Begins v o G) :
    Meets (Builtin.«enumerate.__new__» ⟨[.type "enumerate", v], []⟩) (fun _ R s => G s.heap ∧
      R (.ok (.ret (.ref (s.heap.push o).objs.size))) { s with heap := (s.heap.push o).push { cls := .type "enumerate", data := .fields #[.none, .bool false, .ref s.heap.objs.size, rawInt 0, .none, .none] } }) :=
  .of_wp fun prog w A R s h => by
    obtain ⟨hp, g, d, tk, os⟩ := s
    obtain ⟨h1, h⟩ := h
    have hsub := sub_enumerate
    have qB : ∀ {A' : Around} {E : Value → Shared → Prop} {Q : Value → Shared → Prop}, Q (.ref hp.objs.size) ⟨hp.push o, g, d, tk, os⟩ → wpAny (model prog w) A' (pyIter v) Q E ⟨hp, g, d, tk, os⟩ :=
      fun z => B.iter prog w _ _ ⟨hp, g, d, tk, os⟩ _ h1 z
    wp_walk using qB
    refine wpAny_stack_any fun st => wpAny_pure ?_
    split
    · rename_i c _ _ _ _ _
      cases (c == Value.type "enumerate")
      all_goals (wp_walk using qB; exact ⟨_, rfl, h⟩)
    · wp_walk using qB
      exact ⟨_, rfl, h⟩
section
variable {prog : Program} {w : World} {A : Around} {E : Value → Shared → Prop} {s : Shared}
theorem enum1 {v : Value} {o : Obj} {G : Heap → Prop} {Q : Value → Shared → Prop} (B : Begins v o G) (h1 : G s.heap)
    (h : ∀ h', IsEnum h' (s.heap.objs.size + 1) s.heap.objs.size 0 .none → h'.get? s.heap.objs.size = some o → (∀ b u, s.heap.get? b = some u → h'.get? b = some u) → Q (.ref (s.heap.objs.size + 1)) { s with heap := h' }) :
    wpAny (model prog w) A (call (.type "enumerate") [v]) Q E s := by
  refine callType_new F.called_enumerate (by decide) (F.typeCall_enumerate_1 _) (F.newCall_enumerate_1 _) (fun ob => F.args_object_init_2 ob _) F.entry_enumerate_new (meets_enum1 B) ⟨h1, ?_⟩
  have hz : (s.heap.push o).objs.size = s.heap.objs.size + 1 := Heap.size_push ..
  show _ ∧ _
  rw [hz]
  have he : IsEnum ((s.heap.push o).push { cls := .type "enumerate", data := .fields #[.none, .bool false, .ref s.heap.objs.size, rawInt 0, .none, .none] }) (s.heap.objs.size + 1) s.heap.objs.size 0 .none := by
    have q := Heap.get?_push_size (s.heap.push o) (o := { cls := .type "enumerate", data := .fields #[.none, .bool false, .ref s.heap.objs.size, rawInt 0, .none, .none] }) rfl
    rw [hz] at q
    exact q
  exact ⟨⟨_, he, rfl⟩, h _ he (Heap.get?_push_of_some _ (Heap.get?_push_size _ B.free)) fun b u x => Heap.get?_push_of_some _ (Heap.get?_push_of_some _ x)⟩
end
def ItEt (K : PySem.W.Frag) (a : Addr) : It :=
  ⟨fun i H => ∃ (xs : List V) (x : V), SqT K H a xs ∧ xs[i]? = some x, fun i H v H' => ∃ T x, v = .ref T ∧ H T = none ∧ H' = upd H T (.tup [.int (i : Nat), x]) ∧ ∀ xs, SqT K H a xs → xs[i]? = some x, fun i H => ∃ xs : List V, SqT K H a xs ∧ xs.length = i⟩
theorem turn_enumT {P : Program} {w : World} {K : PySem.W.Frag} {elts : List Expr} {kk : Nat} {tpos : Pos} (a e it : Addr) :
    Turn P w K (.Tuple elts kk tpos) (ItEt K a) [e, it] e (fun i h => (∃ old, IsEnum h e it ((i : Nat) : Int) old) ∧ h.IsTupleIter it a i ∧ e ≠ it ∧ a ≠ it ∧ a ≠ e) where
  mem := by simp
  obj := fun i h st b hb => by
    obtain ⟨⟨old, he⟩, ⟨o, ho, hc, hd⟩, _⟩ := st
    rcases (by simpa using hb : b = e ∨ b = it) with z | z
    · rw [z]; exact ⟨_, he, fun v q => nomatch q⟩
    · rw [z]; exact ⟨o, ho, fun v q => by rw [hd] at q; cases q⟩
  keep := fun i h h' st k => by
    obtain ⟨⟨old, he⟩, hi, hne⟩ := st
    exact ⟨⟨old, k e (by simp) _ he⟩, hi.at fun o q => k it (by simp) o q, hne⟩
  item := by
    intro X hP hw hK hc i pins s σ H E I hf st hg
    subst hP hw hK
    obtain ⟨⟨old, he⟩, hit, hne, hai, hae⟩ := st
    obtain ⟨xs, x, hq, hx⟩ := hg
    obtain ⟨its, rv, p, hz⟩ := I.tuple hq
    obtain ⟨u, hu, ru⟩ := rv.get hx
    have hel : e < s.heap.objs.size := Heap.lt_size he
    have hil : it < s.heap.objs.size := by obtain ⟨_, q, _⟩ := hit; exact Heap.lt_size q
    have hlt : i < its.toArray.size := by
      rw [List.size_toArray]; exact (List.getElem?_eq_some_iff.mp hu).1
    have hh : X.A.in1.handled = none := I.ok.hd hc
    refine wpAny_pyNext_enum_itemD (Draws.tuple (prog := X.prog) (w := X.w) hh it a hai its.toArray) he ⟨hit, p⟩ hlt hne (by simp [hne, Ne.symm hae]) fun u' h' tk hP ho hst hT hsz hk => ?_
    have eu : u' = u := by
      have hP : its.toArray[i]? = some u' := hP
      rw [List.getElem?_toArray, hu] at hP
      exact (Option.some.inj hP).symm
    subst eu
    refine ⟨_, rfl, wpAny_letOwnedTupleGo_enum (s := { s with heap := h', toks := tk + 1 }) ho fun h'' he' sb => ?_⟩
    have hT2 : h''.get? s.heap.objs.size = some { cls := .type "tuple", data := .seq #[.int i tk, u'] } := (sb.2 _ (Nat.ne_of_gt hel)).trans hT
    have new : ObjOk X.prog X.w (upd H s.heap.objs.size (.tup [.int (i : Nat), x])) h'' s.heap.objs.size (.tup [.int (i : Nat), x]) :=
      ⟨(by show 2 ≤ sizeLine; decide), [.int i tk, u'], .cons ⟨_, rfl⟩ (.cons ru .nil), ⟨_, hT2, rfl, _, rfl⟩⟩
    have I1 : Inv X pins σ (upd H s.heap.objs.size (.tup [.int (i : Nat), x])) { s with heap := h'', toks := tk + 1 } :=
      I.turnedNew (ch := [e, it]) (fun b ob hb q => (sb.2 b (fun z => hb (by simp [z]))).trans (hk b ob (fun z => hb (by simp [z])) (fun z => hb (by simp [z])) q)) hf (Nat.le_refl _) new
    refine ⟨.ref s.heap.objs.size, _, I1, rfl, ⟨_, x, rfl, I.hok.fresh (Nat.le_refl _), rfl, fun ys hy => by rw [I.tuple_inj hy hq]; exact hx⟩, ⟨⟨u', ?_⟩, hst.1.at fun o q => (sb.2 it (Ne.symm hne)).trans q, hne, hai, hae⟩, fun b hb => ?_⟩
    · rw [show ((i + 1 : Nat) : Int) = (i : Int) + 1 by omega]
      exact he'
    · have hb' : b < s.heap.objs.size := by
        rcases (by simpa using hb : b = e ∨ b = it) with z | z
        · rw [z]; exact hel
        · rw [z]; exact hil
      rw [upd_ne (Nat.ne_of_lt hb')]
      exact (hf b hb).1
  done := by
    intro X hP hw hK hc i pins s σ H E I hf st hg
    subst hP hw hK
    obtain ⟨⟨old, he⟩, hit, hne, hai, hae⟩ := st
    obtain ⟨xs, hq, hx⟩ := hg
    obtain ⟨its, rv, p, hz⟩ := I.tuple hq
    have hh : X.A.in1.handled = none := I.ok.hd hc
    obtain ⟨f0, f1, f2, f3, f4, f5⟩ := hf it (by simp)
    have hn : its.toArray.size = i := by rw [List.size_toArray, ← rv.length]; exact hx
    exact wpAny_pyNext_enum_endD (Draws.tuple (prog := X.prog) (w := X.w) hh it a hai its.toArray) he ⟨by rw [hn]; exact hit, p⟩ fun h' eb => ⟨rfl, I.turned (t' := s.toks) (fun b o hb q => eb b o hb q) f0 f1 f3 f4 f5⟩
  self := fun A i s Q E st h => by
    obtain ⟨⟨_, he⟩, _⟩ := st
    exact wpAny_pyIter_enum he h
def iEnT (K : PySem.W.Frag) (ta : TA) : TI := fun σ H R => ta σ H fun vs H1 => ∃ a xs, vs = [.ref a] ∧ SqT K H1 a xs ∧ R (ItEt K a) H1
theorem pi_enumT {X : Cx} {e : Expr} {ta : TA} {p pos tpos : Pos} {elts : List Expr} {kk : Nat} (hg : Gl X "enumerate") (hm : X.mg "enumerate" = none) (ha : PA X [e] ta) (hs : starEach [e] X.env = [(false, eval e X.env)] := by rfl) :
    PI X (.Tuple elts kk tpos) (.Call (.Name "enumerate" p) [e] [] pos) (iEnT X.K ta) := by
  refine ⟨fun pins s σ H R I h => ?_⟩
  refine Call_ (ld_blt I hg hm boot_enumerate (PyProof.Rows.callWith_type1 (thn (ha.run pos pins s σ H _ I h) fun us s1 ⟨vs, H1, I1, r1, q1⟩ => ?_) hs rfl))
  obtain ⟨a, xs, ex, hq, q⟩ := q1
  subst ex
  cases r1 with
  | cons r rr =>
    cases rr
    cases r
    obtain ⟨its, rv, p', hz⟩ := I1.tuple hq
    refine enum1 (begins_tuple a its.toArray) p' fun h' he hit hk => wpAny_pyIter_enum he ?_
    have I2 : Inv X pins σ H1 { s1 with heap := h' } := I1.kept (t' := s1.toks) hk
    have hal : a < s1.heap.objs.size := by obtain ⟨_, q, _⟩ := p'; exact Heap.lt_size q
    refine ⟨s1.heap.objs.size + 1, [s1.heap.objs.size + 1, s1.heap.objs.size], _, _, H1, rfl, I2, turn_enumT a (s1.heap.objs.size + 1) s1.heap.objs.size, ⟨⟨.none, he⟩, ⟨_, hit, rfl, rfl⟩, Nat.succ_ne_self _, Nat.ne_of_lt hal, Nat.ne_of_lt (Nat.lt_succ_of_lt hal)⟩, fun b hb => ?_, q⟩
    have hle : s1.heap.objs.size ≤ b := by
      rcases (by simpa using hb : b = s1.heap.objs.size + 1 ∨ b = s1.heap.objs.size) with z | z
      · rw [z]; exact Nat.le_add_right _ _
      · rw [z]; exact Nat.le_refl _
    exact I1.fpOk hle (I1.hok.fresh hle)
theorem walk_enumT {K : PySem.W.Frag} {a : Addr} {xs : List V} : Walk (ItEt K a) xs.length (fun H => SqT K H a xs) (YPair (fun i => some (.int (i : Nat))) (fun i => xs[i]?)) :=
  ⟨fun i _ hi q => ⟨xs, xs[i], q, by simp [hi]⟩, fun _ q => ⟨xs, q, rfl⟩, fun i H v H' _ q ⟨T, x, e1, e2, e3, e4⟩ => ⟨T, _, x, e1, e2, e3, rfl, e4 xs q⟩⟩
end Toy

namespace Toy
open PySem PySem.Spec PyProof.Rows L2
/-! isinstance, by the names of the built-in types -/
def tyN (H : Hp) : V → Option String
  | .non => some "NoneType"
  | .bl _ => some "bool"
  | .int _ => some "int"
  | .str _ => some "str"
  | .ref a => match H a with
    | some (.lst _) => some "list"
    | some (.tup _) => some "tuple"
    | some (.dK _) => some "dict"
    | some (.dT _) => some "dict"
    | _ => none
  | _ => none
theorem tyN_x {K : PySem.W.Frag} {H : Hp} {v : V} {n : String} (h : tyN H v = some n) : TyX K H v (.type n) := by
  cases v with
  | non => cases h; exact .base .non
  | bl b => cases h; exact .base (.bl b)
  | int i => cases h; exact .base (.int i)
  | str z => cases h; exact .base (.str z)
  | ref a =>
    unfold tyN at h
    cases e : H a with
    | none => simp only [e] at h; cases h
    | some o =>
      cases o with
      | lst xs => simp only [e] at h; cases h; exact .base (.lst e)
      | tup xs => simp only [e] at h; cases h; exact .base (.tup e)
      | dK kvs => simp only [e] at h; cases h; exact .base (.dK e)
      | dT kvs => simp only [e] at h; cases h; exact .base (.dT e)
      | _ => simp only [e] at h; cases h
  | _ => cases h
theorem tyN_keep {H H' : Hp} {v : V} {n : String} (k : Same H H') (h : tyN H v = some n) : tyN H' v = some n := by
  cases v with
  | ref a =>
    cases e : H a with
    | none => unfold tyN at h; simp only [e] at h; cases h
    | some o => have e' := k a o e; unfold tyN at h ⊢; simp only [e, e'] at h ⊢; exact h
  | _ => exact h
section
variable {X : Cx}
def rIsN (T : String) : List V → Hp → VK → Prop := fun xs H Q => ∃ (x : V) (n : String) (b : Bool), xs = [x, .ty T] ∧ tyN H x = some n ∧ kitB n T = some b ∧ Q (.bl b) H
theorem call_isN {T : String} : CallR X (.builtin "isinstance") (rIsN T) := by
  intro pins s σ H xs us Q I r h
  obtain ⟨x, n, b, e, h1, h2, q⟩ := h
  exact call_isi pins s σ H xs us Q I r ⟨x, .ty T, _, _, b, e, .ty T, tyN_x h1, kit_ty h2, q⟩
/-- isinstance(x, (T, U)) -/
def rIsN2 (T U : String) : List V → Hp → VK → Prop := fun xs H Q => ∃ (x : V) (tp : Addr) (n : String) (b : Bool), xs = [x, .ref tp] ∧ H tp = some (.tup [.ty T, .ty U]) ∧ tyN H x = some n ∧ (n = T → b = true) ∧ (n = U → b = true) ∧
  ((∃ b1 b2, kitB n T = some b1 ∧ kitB n U = some b2 ∧ b = (b1 || b2)) ∧ Q (.bl b) H)
theorem call_isN2 {T U : String} : CallR X (.builtin "isinstance") (rIsN2 T U) := by
  intro pins s σ H xs us Q I r h
  obtain ⟨x, tp, n, b, e, ht, h1, _, _, ⟨b1, b2, k1, k2, eb⟩, q⟩ := h
  refine call_isiT pins s σ H xs us Q I r ⟨x, tp, _, _, [.type T, .type U], b, e, ht, .cons (.ty T) (.cons (.ty U) .nil), tyN_x h1, ?_, q⟩
  refine kitAny_cons (kit_ty k1) (fun z => kitAny_cons (kit_ty k2) (fun z2 => ?_) (fun z2 => ?_)) (fun z => ?_)
  · rw [eb, z, z2]; exact kitAny_nil
  · rw [eb, z, z2]; rfl
  · rw [eb, z]; rfl
/-! in: a list, a tuple, a dict -/
def rInDct : R2 := fun x y H Q => ∃ a o, y = .ref a ∧ DGet H a x o ∧ Q (.bl o.isSome) H
theorem op_in_dct (hu : X.A.units + 1 < cLine) : OpR X (compareOp .In) rInDct := by
  intro pins s σ H x y v u Q I rx ry h
  obtain ⟨a, o, rfl, g, q⟩ := h
  obtain rfl : u = Value.ref a := ry
  exact d_in hu I g rx fun s3 I3 => ⟨.bl o.isSome, H, I3, rfl, q⟩
theorem op_or {f : Value → Value → Sem Value} {r r' : R2} (h : OpR X f r) (h' : OpR X f r') : OpR X f (fun x y H Q => r x y H Q ∨ r' x y H Q) := by
  intro pins s σ H x y v u Q I rx ry q
  rcases q with q | q
  · exact h pins s σ H x y v u Q I rx ry q
  · exact h' pins s σ H x y v u Q I rx ry q
theorem call_or {f : Value} {r r' : List V → Hp → VK → Prop} (h : CallR X f r) (h' : CallR X f r') : CallR X f (fun xs H Q => r xs H Q ∨ r' xs H Q) := by
  intro pins s σ H xs us Q I rs q
  rcases q with q | q
  · exact h pins s σ H xs us Q I rs q
  · exact h' pins s σ H xs us Q I rs q
/-! ranges as values -/
theorem cr_rng1 : CallR X (.type "range") (fun vs H Q => ∃ j, vs = [V.int j] ∧ ∀ p, H p = none → Q (.ref p) (upd H p (.rng 0 j))) := by
  intro pins s σ H vs us Q I r h
  obtain ⟨j, rfl, q⟩ := h
  obtain ⟨u1, rfl, rj⟩ := vals1 r
  obtain ⟨t, rfl⟩ := rj
  refine call_range_1 ⟨.ref s.heap.objs.size, upd H s.heap.objs.size (.rng 0 j), I.laid (t' := s.toks + 1 + 1) (fun b o e => Heap.get?_push_of_some _ e) (Nat.le_refl _) ?_, rfl, q _ (I.hok.fresh (Nat.le_refl _))⟩
  exact ⟨_, _, _, Heap.get?_push_size _ rfl⟩
def iRngV (te : TE) : TI := fun σ H R => te σ H fun x H1 => ∃ (a : Addr) (lo hi : Int), x = .ref a ∧ H1 a = some (.rng lo hi) ∧ -(2 ^ 62) ≤ lo ∧ lo < 2 ^ 62 ∧ -(2 ^ 62) ≤ hi ∧ hi < 2 ^ 62 ∧ R (Itr lo (hi - lo).toNat) H1
theorem pi_rngV {tg e : Expr} {te : TE} (he : PE X e te) : PI X tg e (iRngV te) := by
  refine ⟨fun pins s σ H R I h => ?_⟩
  refine thn (he.run pins s σ H _ I h) fun v s1 ⟨x, H1, I1, rx, a, lo, hi, ex, ha, h1, h2, h3, h4, q⟩ => ?_
  subst ex
  obtain rfl : v = Value.ref a := rx
  obtain ⟨t, u, w', ho⟩ := I1.hok a _ ha
  have hn : Builtin.Range.rangeSize lo hi 1 = (((hi - lo).toNat : Nat) : Int) := by
    unfold Builtin.Range.rangeSize
    split <;> split <;> omega
  refine range_begins (n := (hi - lo).toNat) ho (small_one h1 h2 h3 h4) hn fun h' hit hsz hk => ?_
  have I2 : Inv X pins σ H1 { s1 with heap := h' } := I1.kept (t' := s1.toks) hk
  refine ⟨s1.heap.objs.size, [s1.heap.objs.size], _, _, H1, rfl, I2, turn_range _ lo (hi - lo).toNat, range_st hit, fun b hb => ?_, q⟩
  obtain rfl : b = s1.heap.objs.size := by simpa using hb
  exact I1.fpOk (Nat.le_refl _) (I1.hok.fresh (Nat.le_refl _))
/-! min of a list of data -/
def rMinD (K : PySem.W.Frag) : List V → Hp → VK → Prop := fun vs H Q => ∃ (a : Addr) (xs : List V) (d : PyData) (ds : List PyData), vs = [.ref a] ∧ SqL K H a xs ∧ DpAll K H xs (d :: ds) ∧ PySem.W.AlikeAll (d :: ds) ∧ PyData.depthAll (d :: ds) ≤ 60 ∧
  ∀ (i : Nat) v, xs[i]? = some v → (d :: ds)[i]? = some (PySem.W.minD d ds) → Q v H
theorem dp_at {K : PySem.W.Frag} {H : Hp} : ∀ {xs : List V} {ds : List PyData} {i : Nat} {v : V}, DpAll K H xs ds → xs[i]? = some v → ∃ d, ds[i]? = some d ∧ Dp K H v d
  | _, _, _, _, .nil, e => by simp at e
  | _, _, 0, _, .cons r _, e => by simp at e; subst e; exact ⟨_, rfl, r⟩
  | _, _, i + 1, x, .cons _ t, e => by
    obtain ⟨y, h1, h2⟩ := dp_at (i := i) (v := x) t (by simpa using e)
    exact ⟨y, by simpa using h1, h2⟩
theorem cr_minD (hc : X.calm = true) (hu : X.A.units + 64 < cLine) : CallR X (.builtin "min") (rMinD X.K) := by
  intro pins s σ H vs us Q I r h
  obtain ⟨a, xs, d, ds, rfl, hs, hd, al, hz, q⟩ := h
  obtain ⟨u, rfl, ru⟩ := vals1 r
  obtain rfl : u = Value.ref a := ru
  obtain ⟨its, rv, p, _⟩ := I.list hs
  obtain ⟨as, hr⟩ := Dp.readsAll I (d :: ds) xs its hd rv
  refine PySem.W.min_list_data (I.ok.hd hc) p.isList (by simpa using hr) al (by omega) fun i v h' tk bs hv hrd hk => ?_
  rw [List.getElem?_toArray] at hv
  obtain ⟨x, hx, rx⟩ := prd_at2 rv hv
  obtain ⟨e, he, de⟩ := dp_at hd hx
  obtain ⟨cs, hre⟩ := Dp.reads I e x v de rx
  have hre' : Reads h' v e cs := PySem.W.reads_keeps hk hre
  have eq1 := hrd.unique e cs hre'
  refine ⟨x, H, I.kept (t' := tk) hk, rx, q i x hx ?_⟩
  rw [he, eq1.1]
end
end Toy

namespace Toy
open PySem PySem.Spec PyProof.Rows L2
theorem tyN_mem {H : Hp} {v : V} {n : String} (h : tyN H v = some n) : n ∈ ["NoneType", "bool", "int", "str", "list", "tuple", "dict"] := by
  cases v with
  | ref a =>
    unfold tyN at h
    cases e : H a with
    | none => simp only [e] at h; cases h
    | some o => cases o <;> simp only [e] at h <;> cases h <;> simp
  | _ => cases h <;> simp
theorem kit7_all : ∀ n ∈ ["NoneType", "bool", "int", "str", "list", "tuple", "dict"], ∀ T ∈ ["bool", "int", "str", "list", "tuple", "dict"], kitB n T = some (n == T || (n == "bool" && T == "int")) := by
  decide +kernel
theorem kit7 {H : Hp} {v : V} {n T : String} (h : tyN H v = some n) (hT : T ∈ ["bool", "int", "str", "list", "tuple", "dict"]) : kitB n T = some (n == T || (n == "bool" && T == "int")) := kit7_all n (tyN_mem h) T hT
theorem tyN_int {H : Hp} {v : V} (h : tyN H v = some "int") : ∃ i, v = .int i := by
  cases v with
  | int i => exact ⟨i, rfl⟩
  | ref a =>
    unfold tyN at h
    cases e : H a with
    | none => simp only [e] at h; cases h
    | some o => cases o <;> simp only [e] at h <;> simp at h
  | _ => simp [tyN] at h
theorem tyN_str {H : Hp} {v : V} (h : tyN H v = some "str") : ∃ i, v = .str i := by
  cases v with
  | str i => exact ⟨i, rfl⟩
  | ref a =>
    unfold tyN at h
    cases e : H a with
    | none => simp only [e] at h; cases h
    | some o => cases o <;> simp only [e] at h <;> simp at h
  | _ => simp [tyN] at h
theorem tyN_tup {H : Hp} {v : V} (h : tyN H v = some "tuple") : ∃ a xs, v = .ref a ∧ H a = some (.tup xs) := by
  cases v with
  | ref a =>
    unfold tyN at h
    cases e : H a with
    | none => simp only [e] at h; cases h
    | some o =>
      cases o with
      | tup xs => exact ⟨a, xs, rfl, e⟩
      | _ => simp only [e] at h <;> simp at h
  | _ => simp [tyN] at h
def spIsInt : Sp := fun vs H Q _ => ∃ (v : V) (n : String), vs = [v] ∧ tyN H v = some n ∧ Q (.bl (n == "int")) H
theorem tyN_bl {H : Hp} {v : V} (h : tyN H v = some "bool") : ∃ i, v = .bl i := by
  cases v with
  | bl i => exact ⟨i, rfl⟩
  | ref a =>
    unfold tyN at h
    cases e : H a with
    | none => simp only [e] at h; cases h
    | some o => cases o <;> simp only [e] at h <;> simp at h
  | _ => simp [tyN] at h
def isI : V → Bool
  | .int _ => true
  | _ => false
def isNat : V → Bool
  | .int i => decide (0 ≤ i)
  | _ => false
def isBelow (m : Int) : V → Bool
  | .int i => decide (0 ≤ i ∧ i < m)
  | _ => false
theorem isI_n {H : Hp} {v : V} {n : String} (h : tyN H v = some n) : (n == "int") = isI v := by
  cases v with
  | ref a =>
    unfold tyN at h
    cases e : H a with
    | none => simp only [e] at h; cases h
    | some o => cases o <;> simp only [e] at h <;> cases h <;> rfl
  | _ => cases h <;> rfl
theorem isNat_no {v : V} (h : isI v = false) : isNat v = false := by cases v <;> first | rfl | cases h
theorem isBelow_no {m : Int} {v : V} (h : isNat v = false) : isBelow m v = false := by
  cases v with
  | int i =>
    have h : decide (0 ≤ i) = false := h
    have h := of_decide_eq_false h
    exact decide_eq_false fun z => h z.1
  | _ => rfl
/-- texts: 1 to 8 letters -/
def isNm : V → Bool
  | .str z => decide (1 ≤ z.length ∧ z.length ≤ 8 ∧ ∀ c ∈ z.cps.toList, 97 ≤ c ∧ c ≤ 122)
  | _ => false
theorem dec_int (a b : Int) : decide (V.int a = V.int b) = decide (a = b) := by
  by_cases e : a = b
  · subst e; simp
  · have h : ¬ V.int a = V.int b := fun q => e (by injection q)
    rw [decide_eq_false h, decide_eq_false e]
def spIsInteger : Sp := fun vs H Q _ => ∃ (v : V) (n : String), vs = [v] ∧ tyN H v = some n ∧ Q (.bl (isI v)) H
def spIsNatural : Sp := fun vs H Q _ => ∃ (v : V) (n : String), vs = [v] ∧ tyN H v = some n ∧ Q (.bl (isNat v)) H
def spIsBelow : Sp := fun vs H Q _ => ∃ (v : V) (n : String) (m : Int), vs = [v, .int m] ∧ tyN H v = some n ∧ Q (.bl (isBelow m v)) H
def spIsRow : Sp := fun vs H Q _ => ∃ (v : V) (n : String), vs = [v] ∧ tyN H v = some n ∧ ∀ H', Same H H' → Q (.bl (n == "list" || n == "tuple")) H'
def spIsPrice : Sp := fun vs H Q _ => ∃ (v : V) (n : String), vs = [v] ∧ tyN H v = some n ∧ Q (.bl (isBelow 10 v)) H
/-- a tuple of so many -/
def isTup (H : Hp) (m : Int) : V → Bool
  | .ref a => match H a with
    | some (.tup xs) => decide ((xs.length : Int) = m)
    | _ => false
  | _ => false
theorem isTup_no {H : Hp} {m : Int} {v : V} {n : String} (h : tyN H v = some n) (hn : (n == "tuple") = false) : isTup H m v = false := by
  cases v with
  | ref a =>
    unfold tyN at h; unfold isTup
    cases e : H a with
    | none => simp only [e]
    | some o => cases o <;> simp only [e] at h ⊢ <;> cases h <;> simp at hn
  | _ => rfl
def spIsTupleOf : Sp := fun vs H Q _ => ∃ (v : V) (n : String) (m : Int), vs = [v, .int m] ∧ tyN H v = some n ∧ Q (.bl (isTup H m v)) H
theorem abc_mem (c : Nat) : decide (c ∈ (Str.ofString "abcdefghijklmnopqrstuvwxyz").cps.toList) = decide (97 ≤ c ∧ c ≤ 122) := by
  have e : (Str.ofString "abcdefghijklmnopqrstuvwxyz").cps.toList = [97,98,99,100,101,102,103,104,105,106,107,108,109,110,111,112,113,114,115,116,117,118,119,120,121,122] := by decide +kernel
  rw [e]
  have h : (c ∈ [97,98,99,100,101,102,103,104,105,106,107,108,109,110,111,112,113,114,115,116,117,118,119,120,121,122]) ↔ (97 ≤ c ∧ c ≤ 122) := by
    simp only [List.mem_cons, List.not_mem_nil, or_false]
    omega
  exact decide_eq_decide.mpr h
/-- name in names: a tuple or list of texts, or a dict of texts -/
def spIsKnown : Sp := fun vs H Q _ => ∃ (z : Str) (v : V), vs = [.str z, v] ∧
  ((∃ (a : Addr) (zs : List Str), v = .ref a ∧ (H a = some (.tup (zs.map V.str)) ∨ H a = some (.lst (zs.map V.str))) ∧ Q (.bl (decide (z ∈ zs))) H) ∨ ∃ (a : Addr) (kvs : List (Key × V)), v = .ref a ∧ H a = some (.dK kvs) ∧ Q (.bl (valV kvs (.inr z : Key)).isSome) H)
def spIsName : Sp := fun vs H Q _ => ∃ (v : V) (n : String), vs = [v] ∧ tyN H v = some n ∧ (∀ z, v = .str z → z.length ≤ sizeLine) ∧ ∀ H', Same H H' → Q (.bl (isNm v)) H'
end Toy

namespace Toy
open PySem PySem.Spec PyProof.Rows L2
theorem nd_t {p : Prop} [Decidable p] (h : (!decide p) = true) : ¬ p := by simpa using h
theorem nd_f {p : Prop} [Decidable p] (h : ¬ (!decide p) = true) : p := by simpa using h
def rTupOf (K : PySem.W.Frag) : List V → Hp → VK → Prop := fun xs H Q => ∃ p ys, xs = [.ref p] ∧ ((SqL K H p ys ∧ ∀ l, H l = none → Q (.ref l) (upd H l (.tup ys))) ∨ (SqT K H p ys ∧ Q (.ref p) H))
def rListOf (K : PySem.W.Frag) : List V → Hp → VK → Prop := fun xs H Q => ∃ p ys, xs = [.ref p] ∧ (SqL K H p ys ∨ SqT K H p ys) ∧ ∀ l, H l = none → Q (.ref l) (upd H l (.lst ys))
def rLenSeq (K : PySem.W.Frag) : List V → Hp → VK → Prop := fun xs H Q => ∃ p ys, xs = [.ref p] ∧ (SqL K H p ys ∨ SqT K H p ys) ∧ Q (.int ys.length) H
def spIsMoves : Sp := fun vs H Q _ => ∃ (v : V) (rows : List (List Int)) (n top : Int), vs = [v] ∧ TupT IntT H v rows ∧ Square n top rows ∧ 1 ≤ n ∧ n ≤ 6 ∧ top ≤ 9 ∧ ∀ H', Same H H' → Q (.bl true) H'
def spIsPrices : Sp := fun vs H Q _ => ∃ (v : V) (row : List (Option Int)) (n top : Int), vs = [v, .int n] ∧ OptT H v row ∧ Prices n top row ∧ n ≤ 6 ∧ top ≤ 9 ∧ ∀ H', Same H H' → Q (.bl true) H'
def spIsRequests : Sp := fun vs H Q _ => ∃ (d : Addr) (kvs : List (Key × V)) (rs : List (Str × List (Option Int))) (n top : Int), vs = [.ref d, .int n] ∧ H d = some (.dK kvs) ∧ DctOf OptT H kvs rs ∧ (rs.map (·.1)).Nodup ∧ 1 ≤ rs.length ∧ rs.length ≤ 5 ∧ (∀ q ∈ rs, Prices n top q.2 ∧ Name 8 q.1) ∧ n ≤ 6 ∧ top ≤ 9 ∧ ∀ H', Same H H' → Q (.bl true) H'
theorem ty_tup {H : Hp} {a : Addr} {xs : List V} (h : H a = some (.tup xs)) : tyN H (.ref a) = some "tuple" := by unfold tyN; simp only [h]
theorem ty_dK {H : Hp} {a : Addr} {xs : List (Key × V)} (h : H a = some (.dK xs)) : tyN H (.ref a) = some "dict" := by unfold tyN; simp only [h]
theorem rep_snoc (n : Nat) : (List.replicate n true).map V.bl ++ [V.bl true] = (List.replicate (n + 1) true).map V.bl := by
  rw [List.replicate_succ', List.map_append]; rfl
theorem rep_all (n : Nat) : (List.replicate n true).all id = true := by
  rw [List.all_eq_true]; intro x hx; rw [List.eq_of_mem_replicate hx]; rfl
theorem map_at {α : Type} {f : α → V} {xs : List α} {i : Nat} {x : V} (h : (xs.map f)[i]? = some x) : ∃ y, xs[i]? = some y ∧ x = f y := by
  rw [List.getElem?_map] at h
  cases e : xs[i]? with
  | none => rw [e] at h; cases h
  | some y => rw [e] at h; exact ⟨y, rfl, (Option.some.inj h).symm⟩
theorem same_upd {H H' : Hp} {D : Addr} {o : HO} (k : Same H H') (n : H D = none) : Same H (upd H' D o) := fun b u e => by
  rw [upd_ne (ne_of_none e n)]; exact k b u e
theorem tup_isTup {H : Hp} {a : Addr} {xs : List V} {m : Int} (h : H a = some (.tup xs)) (e : (xs.length : Int) = m) : isTup H m (.ref a) = true := by
  unfold isTup; simp only [h]; exact decide_eq_true e
theorem below_int {i m : Int} (h : 0 ≤ i) (h2 : i < m) : isBelow m (.int i) = true := decide_eq_true ⟨h, h2⟩
theorem nm_of {z : Str} (h : Name 8 z) : isNm (.str z) = true := decide_eq_true ⟨h.lo, by have := h.hi; omega, h.low.c⟩
theorem small_pt {α : Type} {xs : List α} {n : Int} (h : (xs.length : Int) = n) (h2 : n ≤ 100) : xs.length < sizeLine := small1000 (by omega)
end Toy

/-! least ways in a matrix of prices: plain mathematics -/
namespace Toy
/-- ways are told backwards: the head is the end, the last one the start -/
def rc (R : Nat → Nat → Int) : List Nat → Int
  | [] => 0
  | [_] => 0
  | j :: p :: t => R p j + rc R (p :: t)
structure Way (n i j : Nat) (l : List Nat) : Prop where
  hd : l.head? = some j
  la : l.getLast? = some i
  lt : ∀ x ∈ l, x < n
structure Least (n : Nat) (R M : Nat → Nat → Int) : Prop where
  has : ∀ i j, i < n → j < n → ∃ l, Way n i j l ∧ rc R l = M i j
  le : ∀ i j l, i < n → j < n → Way n i j l → M i j ≤ rc R l
theorem Least.uniq {n : Nat} {R M M' : Nat → Nat → Int} (a : Least n R M) (b : Least n R M') {i j : Nat} (hi : i < n) (hj : j < n) : M i j = M' i j := by
  obtain ⟨l, w, e⟩ := a.has i j hi hj
  obtain ⟨l', w', e'⟩ := b.has i j hi hj
  have h1 := a.le i j l' hi hj w'
  have h2 := b.le i j l hi hj w
  omega
theorem rc_app (R : Nat → Nat → Int) (x : Nat) (c : List Nat) : ∀ a : List Nat, rc R (a ++ x :: c) = rc R (a ++ [x]) + rc R (x :: c)
  | [] => by simp [rc]
  | [y] => by simp [rc]
  | y :: z :: a => by
    have ih := rc_app R x c (z :: a)
    simp only [List.cons_append, rc] at ih ⊢
    omega
theorem rc_nn {R : Nat → Nat → Int} {n : Nat} (h : ∀ i j, i < n → j < n → 0 ≤ R i j) : ∀ l : List Nat, (∀ x ∈ l, x < n) → 0 ≤ rc R l
  | [], _ => Int.le_refl _
  | [_], _ => Int.le_refl _
  | j :: p :: t, hl => by
    have h1 := rc_nn h (p :: t) (fun x hx => hl x (List.mem_cons_of_mem _ hx))
    have h2 := h p j (hl p (by simp)) (hl j (by simp))
    simp only [rc]
    omega
/-! the triangle -/
structure Tri (n : Nat) (M : Nat → Nat → Int) (m : Nat) : Prop where
  z : ∀ i, i < n → M i i = 0
  nn : ∀ i j, i < n → j < n → 0 ≤ M i j
  tri : ∀ i j k, i < n → j < n → k < m → M i j ≤ M i k + M k j
def ph (M : Nat → Nat → Int) (m : Nat) : Nat → Nat → Int := fun i j => if M i m + M m j < M i j then M i m + M m j else M i j
theorem ph_le {M : Nat → Nat → Int} {m i j : Nat} : ph M m i j ≤ M i j ∧ ph M m i j ≤ M i m + M m j ∧ (ph M m i j = M i j ∨ ph M m i j = M i m + M m j) := by
  unfold ph; split <;> omega
theorem Tri.ph {n m : Nat} {M : Nat → Nat → Int} (t : Tri n M m) (hm : m < n) : Tri n (ph M m) (m + 1) := by
  refine ⟨fun i hi => ?_, fun i j hi hj => ?_, fun i j k hi hj hk => ?_⟩
  · have h := @ph_le M m i i
    have h0 := t.z i hi
    have h1 := t.nn i m hi hm
    have h2 := t.nn m i hm hi
    omega
  · have h := @ph_le M m i j
    have h0 := t.nn i j hi hj
    have h1 := t.nn i m hi hm
    have h2 := t.nn m j hm hj
    omega
  · have hij := @ph_le M m i j
    have hik := @ph_le M m i k
    have hkj := @ph_le M m k j
    have hz := t.z m hm
    have n1 := t.nn i m hi hm
    have n2 := t.nn m j hm hj
    by_cases e : k = m
    · subst e
      omega
    · have hk' : k < m := by omega
      have t1 := t.tri i j k hi hj hk'
      have t2 := t.tri m j k hm hj hk'
      have t3 := t.tri i m k hi hm hk'
      have t4 := t.tri m m k hm hm hk'
      omega
structure Snd (n : Nat) (R M : Nat → Nat → Int) : Prop where
  has : ∀ i j, i < n → j < n → ∃ l, Way n i j l ∧ rc R l = M i j
theorem way_cat {n i m j : Nat} {a b : List Nat} {R : Nat → Nat → Int} (w : Way n i m a) (u : Way n m j b) : ∃ l, Way n i j l ∧ rc R l = rc R a + rc R b := by
  obtain ⟨a', rfl⟩ : ∃ a', a = m :: a' := by
    cases a with
    | nil => cases w.hd
    | cons x t => have := w.hd; simp at this; subst this; exact ⟨t, rfl⟩
  obtain ⟨b', rfl⟩ : ∃ b', b = b' ++ [m] := by
    have hb := u.la
    exact ⟨b.dropLast, by
      have hne : b ≠ [] := by rintro rfl; cases hb
      have := List.dropLast_concat_getLast hne
      rw [List.getLast?_eq_some_getLast hne] at hb
      rw [← Option.some.inj hb]
      exact this.symm⟩
  refine ⟨b' ++ m :: a', ⟨?_, ?_, ?_⟩, ?_⟩
  · have := u.hd
    cases b' with
    | nil => simpa using this
    | cons x t => simpa using this
  · rw [List.getLast?_append]
    have := w.la
    rw [this]; rfl
  · intro x hx
    rcases List.mem_append.mp hx with q | q
    · exact u.lt x (List.mem_append.mpr (.inl q))
    · exact w.lt x q
  · rw [rc_app]; omega
theorem Snd.ph {n m : Nat} {R M : Nat → Nat → Int} (s : Snd n R M) (hm : m < n) : Snd n R (ph M m) := by
  refine ⟨fun i j hi hj => ?_⟩
  rcases (@ph_le M m i j).2.2 with e | e
  · rw [e]; exact s.has i j hi hj
  · rw [e]
    obtain ⟨a, w, ea⟩ := s.has i m hi hm
    obtain ⟨b, u, eb⟩ := s.has m j hm hj
    obtain ⟨l, wl, el⟩ := way_cat (R := R) w u
    exact ⟨l, wl, by omega⟩
theorem Least.of {n : Nat} {R M : Nat → Nat → Int} (t : Tri n M n) (s : Snd n R M) (h : ∀ i j, i < n → j < n → M i j ≤ R i j) : Least n R M := by
  refine ⟨s.has, ?_⟩
  intro i j l hi hj w
  have key : ∀ l : List Nat, ∀ j, Way n i j l → M i j ≤ rc R l := by
    intro l
    induction l with
    | nil => intro j w; cases w.hd
    | cons x t' ih =>
      intro j w
      have hx : x = j := by have := w.hd; simpa using this
      subst hx
      cases t' with
      | nil =>
        have : x = i := by have := w.la; simpa using this
        subst this
        rw [t.z x hi]
        exact Int.le_refl _
      | cons p t'' =>
        have hp := w.lt p (by simp)
        have hx := w.lt x (by simp)
        have w2 : Way n i p (p :: t'') := ⟨rfl, by have := w.la; rw [List.getLast?_cons_cons] at this; exact this, fun y hy => w.lt y (List.mem_cons_of_mem _ hy)⟩
        have h1 := ih p w2
        have h2 := t.tri i x p hi hx hp
        have h3 := h p x hp hx
        simp only [rc]
        omega
  exact key l j w
/-! short ways do -/
theorem pigeon : ∀ (n : Nat) (l : List Nat), (∀ x ∈ l, x < n) → l.Nodup → l.length ≤ n
  | 0, l, h, _ => by
    cases l with
    | nil => exact Nat.le_refl _
    | cons x t => exact absurd (h x (by simp)) (by omega)
  | n + 1, l, h, nd => by
    have h1 : (l.erase n).length ≤ n := pigeon n (l.erase n) (fun x hx => by
      have hx' := (List.Nodup.mem_erase_iff nd).mp hx
      have := h x hx'.2
      have := hx'.1
      omega) (nd.erase n)
    by_cases e : n ∈ l
    · have := List.length_erase_of_mem e
      have := List.length_pos_of_mem e
      omega
    · rw [List.erase_of_not_mem e] at h1
      omega
theorem dup : ∀ l : List Nat, ¬ l.Nodup → ∃ a x b c, l = a ++ x :: (b ++ x :: c)
  | [], h => absurd List.nodup_nil h
  | x :: t, h => by
    by_cases e : x ∈ t
    · obtain ⟨b, c, rfl⟩ := List.append_of_mem e
      exact ⟨[], x, b, c, rfl⟩
    · have : ¬ t.Nodup := fun q => h (List.nodup_cons.mpr ⟨e, q⟩)
      obtain ⟨a, y, b, c, rfl⟩ := dup t this
      exact ⟨x :: a, y, b, c, rfl⟩
theorem short {n : Nat} {R : Nat → Nat → Int} (h : ∀ i j, i < n → j < n → 0 ≤ R i j) {i j : Nat} : ∀ (k : Nat) (l : List Nat), l.length ≤ k → Way n i j l → ∃ l', Way n i j l' ∧ l'.length ≤ n ∧ rc R l' ≤ rc R l
  | 0, l, hk, w => by
    cases l with
    | nil => cases w.hd
    | cons x t => simp at hk
  | k + 1, l, hk, w => by
    by_cases hn : l.length ≤ n
    · exact ⟨l, w, hn, Int.le_refl _⟩
    · have hd : ¬ l.Nodup := fun q => hn (pigeon n l w.lt q)
      obtain ⟨a, x, b, c, rfl⟩ := dup l hd
      have w' : Way n i j (a ++ x :: c) := by
        refine ⟨?_, ?_, ?_⟩
        · have := w.hd
          cases a <;> simpa using this
        · have hl := w.la
          rw [List.getLast?_append] at hl ⊢
          have e : (x :: (b ++ x :: c)).getLast? = (x :: c).getLast? := by
            rw [show x :: (b ++ x :: c) = (x :: b) ++ x :: c from rfl, List.getLast?_append]
            cases hq : (x :: c).getLast? with
            | none => simp at hq
            | some y => rfl
          rw [e] at hl; exact hl
        · intro y hy
          refine w.lt y ?_
          simp only [List.mem_append, List.mem_cons] at hy ⊢
          rcases hy with q | q | q
          · exact .inl q
          · exact .inr (.inl q)
          · exact .inr (.inr (.inr (.inr q)))
      have hlen : (a ++ x :: c).length ≤ k := by
        simp only [List.length_append, List.length_cons] at hk ⊢
        omega
      obtain ⟨l', wl, el, rl⟩ := short h k _ hlen w'
      refine ⟨l', wl, el, Int.le_trans rl ?_⟩
      have e1 := rc_app R x c a
      have e2 := rc_app R x (b ++ x :: c) a
      have e3 := rc_app R x c (x :: b)
      rw [show (x :: b) ++ x :: c = x :: (b ++ x :: c) from rfl] at e3
      have e4 : 0 ≤ rc R ((x :: b) ++ [x]) := rc_nn h _ fun y hy => w.lt y (by
        simp only [List.mem_append, List.mem_cons, List.not_mem_nil, or_false] at hy ⊢
        rcases hy with (q | q) | q
        · exact .inr (.inl q)
        · exact .inr (.inr (.inl q))
        · exact .inr (.inl q))
      omega
/-- products with R, again and again -/
structure Bound (n k : Nat) (R L : Nat → Nat → Int) : Prop where
  b : ∀ i j l, i < n → j < n → Way n i j l → l.length ≤ k → L i j ≤ rc R l
theorem Least.prod {n k : Nat} {R L : Nat → Nat → Int} (h : ∀ i j, i < n → j < n → 0 ≤ R i j) (s : Snd n R L) (b : Bound n k R L) (hk : n ≤ k) : Least n R L := by
  refine ⟨s.has, fun i j l hi hj w => ?_⟩
  obtain ⟨l', w', e, r⟩ := short h l.length l (Nat.le_refl _) w
  exact Int.le_trans (b.b i j l' hi hj w' (by omega)) r
theorem Bound.step {n k : Nat} {R L L' : Nat → Nat → Int} (b : Bound n k R L) (z : ∀ i, i < n → R i i = 0) (hk : 1 ≤ k) (h : ∀ i j c, i < n → j < n → c < n → L' i j ≤ L i c + R c j) : Bound n (k + 1) R L' := by
  refine ⟨fun i j l hi hj w hl => ?_⟩
  cases l with
  | nil => cases w.hd
  | cons x t =>
    have hx : x = j := by have := w.hd; simpa using this
    subst hx
    cases t with
    | nil =>
      have h1 := h i x x hi hj hj
      have h2 := b.b i x [x] hi hj w (by simpa using hk)
      rw [z x hj] at h1
      simp only [rc] at h2 ⊢
      omega
    | cons p t =>
      have hp := w.lt p (by simp)
      have w2 : Way n i p (p :: t) := ⟨rfl, by have := w.la; rw [List.getLast?_cons_cons] at this; exact this, fun y hy => w.lt y (List.mem_cons_of_mem _ hy)⟩
      have h1 := h i x p hi hj hp
      have h2 := b.b i p (p :: t) hi hp w2 (by simp only [List.length_cons] at hl ⊢; omega)
      simp only [rc]
      omega
theorem Bound.two {n : Nat} {R : Nat → Nat → Int} (z : ∀ i, i < n → R i i = 0) : Bound n 2 R R := by
  refine ⟨fun i j l hi hj w hl => ?_⟩
  match l, w, hl with
  | [], w, _ => cases w.hd
  | [x], w, _ =>
    have h1 : x = j := by have := w.hd; simpa using this
    have h2 : x = i := by have := w.la; simpa using this
    subst h1; subst h2
    rw [z x hi]; exact Int.le_refl _
  | [x, y], w, _ =>
    have h1 : x = j := by have := w.hd; simpa using this
    have h2 : y = i := by have := w.la; simpa using this
    subst h1; subst h2
    simp only [rc]; exact Int.le_of_eq (by omega)
  | _ :: _ :: _ :: _, _, hl => simp at hl
theorem Snd.self {n : Nat} {R : Nat → Nat → Int} : Snd n R R :=
  ⟨fun i j hi hj => ⟨[j, i], ⟨rfl, rfl, by intro x hx; simp at hx; rcases hx with rfl | rfl <;> assumption⟩, by simp [rc]⟩⟩
theorem Snd.step {n : Nat} {R L L' : Nat → Nat → Int} (s : Snd n R L) (h : ∀ i j, i < n → j < n → ∃ c, c < n ∧ L' i j = L i c + R c j) : Snd n R L' := by
  refine ⟨fun i j hi hj => ?_⟩
  obtain ⟨c, hc, e⟩ := h i j hi hj
  obtain ⟨a, w, ea⟩ := s.has i c hi hc
  obtain ⟨b, u, eb⟩ := (Snd.self (R := R)).has c j hc hj
  obtain ⟨l, wl, el⟩ := way_cat (R := R) w u
  exact ⟨l, wl, by omega⟩
end Toy

namespace Toy
open PySem PySem.Spec PyProof.Rows L2
def mat (rows : List (List Int)) (i j : Nat) : Int := (rows.getD i []).getD j 0
def rowV (n : Nat) (f : Nat → Int) : List V := (List.range n).map fun j => V.int (f j)
theorem rowV_len (n : Nat) (f : Nat → Int) : (rowV n f).length = n := by unfold rowV; rw [List.length_map, List.length_range]
theorem rowV_at {n : Nat} {f : Nat → Int} {j : Nat} (h : j < n) : (rowV n f)[j]? = some (.int (f j)) := by
  unfold rowV; rw [List.getElem?_map, List.getElem?_range h]; rfl
theorem rowV_set {n : Nat} {f : Nat → Int} {e : Nat} {v : Int} : (rowV n f).set e (.int v) = rowV n fun j => if j = e then v else f j := by
  apply List.ext_getElem?
  intro j
  rw [List.getElem?_set]
  by_cases hj : j < n
  · rw [rowV_at hj, rowV_at hj, rowV_len]
    by_cases he : e = j
    · subst he; simp [hj]
    · have he' : ¬ j = e := fun q => he q.symm
      simp [he, he']
  · have h1 : (rowV n f)[j]? = none := List.getElem?_eq_none (by rw [rowV_len]; omega)
    have h2 : (rowV n fun j => if j = e then v else f j)[j]? = none := List.getElem?_eq_none (by rw [rowV_len]; omega)
    rw [h1, h2, rowV_len]
    by_cases he : e = j
    · subst he; simp [hj]
    · simp [he]
theorem rowV_of {n : Nat} {r : List Int} (h : r.length = n) : r.map V.int = rowV n fun j => r.getD j 0 := by
  apply List.ext_getElem?
  intro j
  by_cases hj : j < n
  · rw [rowV_at hj, List.getElem?_map, List.getElem?_eq_getElem (by omega)]
    rw [List.getD_eq_getElem?_getD, List.getElem?_eq_getElem (by omega)]
    rfl
  · rw [List.getElem?_eq_none (l := r.map V.int) (by rw [List.length_map]; omega), List.getElem?_eq_none (l := rowV n _) (by rw [rowV_len]; omega)]
theorem rowV_ints (n : Nat) (f : Nat → Int) : rowV n f = ((List.range n).map f).map V.int := by
  unfold rowV; rw [List.map_map]; rfl
/-- a matrix that is written: a list of lists -/
structure MatAt (H : Hp) (w : Addr) (as : List Addr) (n : Nat) (M : Nat → Nat → Int) : Prop where
  ws : H w = some (.lst (as.map V.ref))
  len : as.length = n
  nd : as.Nodup
  nw : w ∉ as
  row : ∀ (i : Nat) a, as[i]? = some a → H a = some (.lst (rowV n (M i)))
theorem MatAt.ext {H : Hp} {w : Addr} {as : List Addr} {n : Nat} {M M' : Nat → Nat → Int} (m : MatAt H w as n M) (h : ∀ i j, i < n → j < n → M i j = M' i j) : MatAt H w as n M' :=
  ⟨m.ws, m.len, m.nd, m.nw, fun i a e => by
    have hi : i < n := by rw [← m.len]; exact (List.getElem?_eq_some_iff.mp e).1
    rw [m.row i a e]
    congr 2
    unfold rowV
    apply List.map_congr_left
    intro j hj
    rw [h i j hi (List.mem_range.mp hj)]⟩
theorem MatAt.set {H : Hp} {w : Addr} {as : List Addr} {n : Nat} {M : Nat → Nat → Int} (m : MatAt H w as n M) {s e : Nat} {a : Addr} {v : Int} (hs : as[s]? = some a) :
    MatAt (upd H a (.lst (rowV n fun j => if j = e then v else M s j))) w as n (fun i j => if i = s ∧ j = e then v else M i j) := by
  have haw : w ≠ a := fun q => m.nw (by rw [q]; exact List.mem_of_getElem? hs)
  refine ⟨(upd_ne haw).trans m.ws, m.len, m.nd, m.nw, fun i b hb => ?_⟩
  by_cases hi : i = s
  · subst hi
    rw [hs] at hb
    obtain rfl := Option.some.inj hb
    rw [upd_same]
    simp
  · have hab : b ≠ a := by
      intro q
      subst q
      exact hi (nd_ix m.nd hb hs)
    rw [upd_ne hab, m.row i b hb]
    simp [hi]
structure Ways (n : Int) (rows ws : List (List Int)) : Prop where
  len : (ws.length : Int) = n
  row : ∀ r ∈ ws, (r.length : Int) = n
  least : Least n.toNat (mat rows) (mat ws)
def spLeastWays : Sp := fun vs H Q _ => ∃ (v : V) (rows : List (List Int)) (n top : Int), vs = [v] ∧ TupT IntT H v rows ∧ Square n top rows ∧ 1 ≤ n ∧ n ≤ 100 ∧
  ∀ v' ws H', Same H H' → TupT IntT H' v' ws → Ways n rows ws → Q v' H'
theorem mat_at {rows : List (List Int)} {i : Nat} {r : List Int} (h : rows[i]? = some r) (j : Nat) : mat rows i j = r.getD j 0 := by
  unfold mat
  have e : rows.getD i [] = r := by rw [List.getD_eq_getElem?_getD, h]; rfl
  rw [e]
theorem Square.nn {n top : Int} {rows : List (List Int)} (S : Square n top rows) : ∀ i j, i < n.toNat → j < n.toNat → 0 ≤ mat rows i j := by
  intro i j hi hj
  have hl := S.len
  have hr : rows[i]? = some rows[i] := List.getElem?_eq_getElem (by omega)
  rw [mat_at hr]
  have hm := S.row rows[i] (List.mem_of_getElem? hr)
  rw [List.getD_eq_getElem?_getD, List.getElem?_eq_getElem (by omega)]
  exact (hm.2 _ (List.getElem_mem _)).1
theorem Square.z {n top : Int} {rows : List (List Int)} (S : Square n top rows) : ∀ i, i < n.toNat → mat rows i i = 0 := by
  intro i hi
  have hl := S.len
  have hr : rows[i]? = some rows[i] := List.getElem?_eq_getElem (by omega)
  rw [mat_at hr, List.getD_eq_getElem?_getD, S.diag i _ hr]
  rfl
end Toy

namespace Toy
open PySem PySem.Spec PyProof.Rows L2
/-- a System's attributes -/
def sfs (mv : V) (n : Int) (nv wv : V) (q : Addr) : List (Str × V) := putF "_requests" (.ref q) (putF "ways" wv (putF "names" nv (putF "posts" (.int n) (putF "moves" mv []))))
section
variable {mv nv wv : V} {n : Int} {q : Addr}
theorem sfs_requests : (sfs mv n nv wv q).lookup ("_requests" : Str) = some (.ref q) := by unfold sfs; rw [lookup_putF, if_pos rfl]
theorem sfs_ways : (sfs mv n nv wv q).lookup ("ways" : Str) = some wv := by unfold sfs; rw [lookup_putF, if_neg (by decide +kernel), lookup_putF, if_pos rfl]
theorem sfs_names : (sfs mv n nv wv q).lookup ("names" : Str) = some nv := by unfold sfs; rw [lookup_putF, if_neg (by decide +kernel), lookup_putF, if_neg (by decide +kernel), lookup_putF, if_pos rfl]
theorem sfs_posts : (sfs mv n nv wv q).lookup ("posts" : Str) = some (.int n) := by unfold sfs; rw [lookup_putF, if_neg (by decide +kernel), lookup_putF, if_neg (by decide +kernel), lookup_putF, if_neg (by decide +kernel), lookup_putF, if_pos rfl]
theorem sfs_moves : (sfs mv n nv wv q).lookup ("moves" : Str) = some mv := by unfold sfs; rw [lookup_putF, if_neg (by decide +kernel), lookup_putF, if_neg (by decide +kernel), lookup_putF, if_neg (by decide +kernel), lookup_putF, if_neg (by decide +kernel), lookup_putF, if_pos rfl]
theorem sfs_no {m : Str} (h1 : ¬ m = "_requests") (h2 : ¬ m = "ways") (h3 : ¬ m = "names") (h4 : ¬ m = "posts") (h5 : ¬ m = "moves") : (sfs mv n nv wv q).lookup m = none := by
  unfold sfs; rw [lookup_putF, if_neg h1, lookup_putF, if_neg h2, lookup_putF, if_neg h3, lookup_putF, if_neg h4, lookup_putF, if_neg h5]; rfl
end
theorem putF_len (f : Str) (v : V) : ∀ fs : List (Str × V), (putF f v fs).length ≤ fs.length + 1
  | [] => Nat.le_refl _
  | (g, u) :: r => by
    have ih := putF_len f v r
    unfold putF
    split
    · simp
    · simp only [List.length_cons]; omega
theorem dct_keys {α : Type} {R : Hp → V → α → Prop} {H : Hp} : ∀ {kvs : List (Key × V)} {rs : List (Str × α)}, DctOf R H kvs rs → kvs.map (·.1) = (rs.map (·.1)).map Sum.inr
  | _, _, .nil => rfl
  | kv :: kvs, p :: rs, .cons r t => by
    have ih := dct_keys t
    simp only [List.map_cons] at ih ⊢
    rw [ih, r.1]
def pick {α : Type} (rs : List (Str × α)) (z : Str) (x : α) : Prop := (z, x) ∈ rs
/-- the pairs in another order of their keys -/
theorem reorder {α : Type} [Inhabited α] : ∀ {rs : List (Str × α)} {ys : List Str}, (rs.map (·.1)).Nodup → ys.Perm (rs.map (·.1)) → ∃ rs' : List (Str × α), rs'.map (·.1) = ys ∧ rs'.Perm rs := by
  intro rs ys nd hp
  let f : Str → Str × α := fun z => (z, ((rs.find? fun p => decide (p.1 = z)).map (·.2)).getD default)
  have hf : ∀ (l : List (Str × α)), (∀ p ∈ l, p ∈ rs) → (l.map (·.1)).map f = l := by
    intro l hl
    rw [List.map_map]
    conv => rhs; rw [← List.map_id l]
    apply List.map_congr_left
    intro p hpm
    have hpr := hl p hpm
    show f p.1 = p
    have key : ∀ (l : List (Str × α)), (l.map (·.1)).Nodup → p ∈ l → (l.find? fun q => decide (q.1 = p.1)) = some p := by
      intro l
      induction l with
      | nil => intro _ h; cases h
      | cons q t ih =>
        intro nd hm
        rw [List.map_cons] at nd
        obtain ⟨n1, n2⟩ := List.nodup_cons.mp nd
        rcases List.mem_cons.mp hm with e | hm
        · subst e; rw [List.find?_cons, decide_eq_true rfl]
        · have : ¬ q.1 = p.1 := fun e => n1 (by rw [e]; exact List.mem_map.mpr ⟨p, hm, rfl⟩)
          rw [List.find?_cons, decide_eq_false this]
          exact ih n2 hm
    show (p.1, ((rs.find? fun q => decide (q.1 = p.1)).map (·.2)).getD default) = p
    rw [key rs nd hpr]
    rfl
  refine ⟨ys.map f, ?_, ?_⟩
  · rw [List.map_map]
    conv => rhs; rw [← List.map_id ys]
    apply List.map_congr_left
    intro z _
    rfl
  · have h1 := hp.map f
    rw [hf rs fun p h => h] at h1
    exact h1
theorem keep4 {H : Hp} {p l t : Addr} {a b c d : HO} (nl : H l = none) (nt : H t = none) : Keep p H (upd (upd (upd (upd H p a) l b) t c) p d) := fun x o n e => by
  rw [upd_ne n, upd_ne (ne_of_none e nt), upd_ne (ne_of_none e nl), upd_ne n]; exact e
theorem take_nmem {α : Type} {xs : List α} (nd : xs.Nodup) {i : Nat} {x : α} (h : xs[i]? = some x) : ¬ x ∈ xs.take i := by
  intro m
  obtain ⟨j, hj, ej⟩ := List.getElem_of_mem m
  rw [List.getElem_take] at ej
  rw [List.length_take] at hj
  have h2 := (List.getElem?_eq_some_iff.mp h).2
  have := (List.getElem_inj nd).mp (ej.trans h2.symm)
  omega
theorem sortedS_perm_nd {ys zs : List Str} (h : ys.Perm zs) (nd : zs.Nodup) : ys.Nodup := h.nodup_iff.mpr nd
/-- what a System is made of -/
structure Sys where
  n : Int
  rows : List (List Int)
  ws : List (List Int)
  rs : List (Str × List (Option Int))
structure SysOk (S : Sys) : Prop where
  n1 : 1 ≤ S.n
  n6 : S.n ≤ 6
  sq : Square S.n 9 S.rows
  wy : Ways S.n S.rows S.ws
  nd : (S.rs.map (·.1)).Nodup
  srt : sortedS (S.rs.map (·.1)) = true
  r1 : 1 ≤ S.rs.length
  r5 : S.rs.length ≤ 5
  pr : ∀ q ∈ S.rs, Prices S.n 9 q.2 ∧ Name 8 q.1
structure SysAt (C : Addr) (H : Hp) (p : Addr) (S : Sys) : Prop where
  ex : ∃ (dx : Addr) (mv : V) (na : Addr) (wv : V) (q : Addr) (kvs : List (Key × V)), H p = some (.ins C dx (sfs mv S.n (.ref na) wv q)) ∧ TupT IntT H mv S.rows ∧ H na = some (.tup ((S.rs.map (·.1)).map V.str)) ∧ TupT IntT H wv S.ws ∧ H q = some (.dK kvs) ∧ DctOf OptT H kvs S.rs
theorem SysAt.same {C : Addr} {H H' : Hp} {p : Addr} {S : Sys} (A : SysAt C H p S) (k : Same H H') : SysAt C H' p S := by
  obtain ⟨dx, mv, na, wv, q, kvs, h1, h2, h3, h4, h5, h6⟩ := A.ex
  exact ⟨dx, mv, na, wv, q, kvs, k _ _ h1, TupT.firm IntT.firm H H' _ _ (same_tups k) h2, k _ _ h3, TupT.firm IntT.firm H H' _ _ (same_tups k) h4, k _ _ h5, h6.firm OptT.firm (same_tups k)⟩
def spSystem (C : Addr) : Sp := fun vs H Q _ => ∃ (p dx : Addr) (mv : V) (d : Addr) (rows : List (List Int)) (kvs : List (Key × V)) (rs : List (Str × List (Option Int))) (n : Int), vs = [.ref p, mv, .ref d] ∧ H p = some (.ins C dx []) ∧
  TupT IntT H mv rows ∧ Square n 9 rows ∧ 1 ≤ n ∧ n ≤ 6 ∧ H d = some (.dK kvs) ∧ DctOf OptT H kvs rs ∧ (rs.map (·.1)).Nodup ∧ 1 ≤ rs.length ∧ rs.length ≤ 5 ∧ (∀ q ∈ rs, Prices n 9 q.2 ∧ Name 8 q.1) ∧
  ∀ (S : Sys) (H' : Hp), SysOk S → S.n = n → S.rows = rows → S.rs.Perm rs → SysAt C H' p S → (∀ b o, b ≠ p → H b = some o → H' b = some o) → Q .non H'
end Toy

namespace Toy
open PySem PySem.Spec PyProof.Rows L2
/-! a comprehension within another one -/
def fake (fr : List Str) : Scope := { kind := .function, names := fr.map fun x => (x, NameKind.free), isGenerator := false, isCoroutine := false }
def AllF (sc : Scope) : List Str → Prop
  | [] => True
  | x :: t => (sc.names.lookup x = some .cell ∨ sc.names.lookup x = some .free) ∧ AllF sc t
theorem allF_mem {sc : Scope} {x : Str} : ∀ {fr : List Str}, AllF sc fr → x ∈ fr → sc.names.lookup x = some .cell ∨ sc.names.lookup x = some .free
  | y :: t, h, m => by
    rcases List.mem_cons.mp m with e | m
    · rw [e]; exact h.1
    · exact allF_mem h.2 m
theorem blkOk_fr {N : List Str} {sc scope : Scope} {own : List (Str × Nat)} (fr : List Str) (h : blkC N (fake fr) scope own = true) (hf : AllF sc fr) : BlkOk N sc scope own := by
  have b := blkOk_by h
  refine ⟨b.kind, b.uniq, b.ix, fun y hy e => ?_, b.own⟩
  refine allF_mem hf ?_
  have q : ∀ k, (fake fr).names.lookup y.1 = some k → y.1 ∈ fr := fun k q => by
    have m := PySem.mem_of_lookup q
    obtain ⟨x, hx, e⟩ := List.mem_map.mp m
    cases e
    exact hx
  rcases b.free y hy e with z | z
  · exact q _ z
  · exact q _ z
theorem tup_mul1 (l : Addr) (items : Array Value) (n : Nat) (dd : Option Addr) (sl : Array (Option Value)) (u : Tok) :
    Meets (Builtin.«tuple.__mul__» ⟨[.ref l, .int 1 u], []⟩) (fun _ R s => s.heap.get? l = some { cls := .type "tuple", dict := dd, data := .seq items n, slots := sl } ∧ R (.ok (.ret (Value.ref l))) s) :=
  .of_wp fun prog w A R s h => by
    obtain ⟨hp, g, d, tk, os⟩ := s
    obtain ⟨hl, h⟩ := h
    have f1 := AutoSeq1.idx_int
    have c0 : (decide ((1 : Int) < -(2 ^ 63)) || decide ((1 : Int) ≥ 2 ^ 63)) = false := by decide
    have c1 : (items.isEmpty || (1 : Int) == 1) = true := by simp
    wp_walk using AutoSeq1.wpAny_loadPart' hl
    exact ⟨_, rfl, h⟩
section
variable {X : Cx}
def rRep1 (K : PySem.W.Frag) : R2 := fun x y H Q => ∃ l xs, x = .ref l ∧ y = .int 1 ∧ SqT K H l xs ∧ Q (.ref l) H
theorem op_rep1 : OpR X (binaryOp .Mult) (rRep1 X.K) := by
  intro pins s σ H x y v u Q I rx ry h
  obtain ⟨l, xs, rfl, rfl, hT, q⟩ := h
  cases rx
  obtain ⟨t, rfl⟩ := ry
  obtain ⟨its, r, ⟨⟨cls, dd, data, sl⟩, ho, hc, n, hd⟩, hs⟩ := I.tuple hT
  simp only at hc hd
  subst hc hd
  exact wpAny_binaryOp_repeat_ref (T := "tuple") (U := "int") (by decide) ⟨_, ho, rfl⟩ (fun s' => typeIs_int s' 1 t) noFill_tuple_mul F.fills_int_mul F.slot_int_rmul repeat_tuple F.slot_int_index.lookup
    (call_meets F.slot_int_rmul (typeIs_int s 1 t) F.entry_int_rmul (F.args_int_rmul_2 _ _) (int_rmul_tuple 1 t l its.toArray n dd sl)
      ⟨ho, rfl, ⟨_, ho, rfl⟩, call_meets F.slot_tuple_mul ⟨_, ho, rfl⟩ F.entry_tuple_mul (F.args_tuple_mul_2 _ _) (tup_mul1 l its.toArray n dd sl t) ⟨ho, .ref l, H, I, rfl, q⟩⟩)
theorem pi_or {tg iter : Expr} {w1 w2 : TI} (h1 : PI X tg iter w1) (h2 : PI X tg iter w2) : PI X tg iter (fun σ H R => w1 σ H R ∨ w2 σ H R) := by
  refine ⟨fun pins s σ H R I q => ?_⟩
  rcases q with q | q
  · exact h1.run pins s σ H R I q
  · exact h2.run pins s σ H R I q
end
end Toy

namespace Toy
open PySem PySem.Spec PyProof.Rows L2
/-! least of a list -/
def minL : List Int → Int
  | [] => 0
  | x :: xs => xs.foldl (fun a y => if y < a then y else a) x
theorem fold_le (xs : List Int) : ∀ x : Int, xs.foldl (fun a y => if y < a then y else a) x ≤ x ∧ (∀ y ∈ xs, xs.foldl (fun a y => if y < a then y else a) x ≤ y) ∧ (xs.foldl (fun a y => if y < a then y else a) x = x ∨ xs.foldl (fun a y => if y < a then y else a) x ∈ xs) := by
  induction xs with
  | nil => intro x; exact ⟨Int.le_refl _, by simp, .inl rfl⟩
  | cons z t ih =>
    intro x
    rw [List.foldl_cons]
    obtain ⟨h1, h2, h3⟩ := ih (if z < x then z else x)
    have hz : (if z < x then z else x) ≤ z ∧ (if z < x then z else x) ≤ x := by split <;> omega
    refine ⟨by omega, fun y hy => ?_, ?_⟩
    · rcases List.mem_cons.mp hy with e | hy
      · subst e; omega
      · exact h2 y hy
    · rcases h3 with e | e
      · rw [e]
        split
        · exact .inr List.mem_cons_self
        · exact .inl rfl
      · exact .inr (List.mem_cons_of_mem _ e)
theorem minL_le {l : List Int} {y : Int} (h : y ∈ l) : minL l ≤ y := by
  cases l with
  | nil => cases h
  | cons x xs =>
    obtain ⟨h1, h2, h3⟩ := fold_le xs x
    rcases List.mem_cons.mp h with e | h
    · subst e; exact h1
    · exact h2 y h
theorem minL_mem {l : List Int} (h : l ≠ []) : minL l ∈ l := by
  cases l with
  | nil => exact absurd rfl h
  | cons x xs =>
    obtain ⟨h1, h2, h3⟩ := fold_le xs x
    rcases h3 with e | e
    · show xs.foldl _ x ∈ x :: xs
      rw [e]; exact List.mem_cons_self
    · exact List.mem_cons_of_mem _ e
theorem minL_eq {l : List Int} {m : Int} (h : m ∈ l) (h2 : ∀ y ∈ l, m ≤ y) : minL l = m := by
  have a := minL_le h
  have b := h2 _ (minL_mem (fun e => by rw [e] at h; cases h))
  omega
def chF (ws : List (List Int)) (row : List (Option Int)) (ah : List Int) (s p : Nat) : Option (Int × Int) := match row.getD p none with
  | some c => some (mat ws s p + c + ah.getD p 0, (p : Int))
  | none => none
theorem chF_none {ws : List (List Int)} {row : List (Option Int)} {ah : List Int} {s p : Nat} (h : row.getD p none = none) : chF ws row ah s p = none := by unfold chF; rw [h]
theorem chF_some {ws : List (List Int)} {row : List (Option Int)} {ah : List Int} {s p : Nat} {c : Int} (h : row.getD p none = some c) : chF ws row ah s p = some (mat ws s p + c + ah.getD p 0, (p : Int)) := by unfold chF; rw [h]
/-- where one can go, and what it costs with what is ahead -/
def chs (n : Nat) (ws : List (List Int)) (row : List (Option Int)) (ah : List Int) (s : Nat) : List (Int × Int) :=
  (List.range n).filterMap (chF ws row ah s)
def ceil (n : Nat) (ws : List (List Int)) (row : List (Option Int)) (ah : List Int) : List Int := (List.range n).map fun s => minL ((chs n ws row ah s).map (·.1))
def val (n : Nat) (ws : List (List Int)) : List (List (Option Int)) → List Int
  | [] => List.replicate n 0
  | r :: t => ceil n ws r (val n ws t)
theorem ceil_len {n : Nat} {ws : List (List Int)} {row : List (Option Int)} {ah : List Int} : (ceil n ws row ah).length = n := by unfold ceil; rw [List.length_map, List.length_range]
theorem val_len {n : Nat} {ws : List (List Int)} : ∀ t, (val n ws t).length = n
  | [] => List.length_replicate
  | _ :: _ => ceil_len
theorem chs_mem {n : Nat} {ws : List (List Int)} {row : List (Option Int)} {ah : List Int} {s : Nat} {q : Int × Int} : q ∈ chs n ws row ah s ↔ ∃ p c, p < n ∧ row.getD p none = some c ∧ q = (mat ws s p + c + ah.getD p 0, (p : Int)) := by
  unfold chs
  rw [List.mem_filterMap]
  constructor
  · rintro ⟨p, hp, e⟩
    cases hc : row.getD p none with
    | none => rw [chF_none hc] at e; cases e
    | some c => rw [chF_some hc] at e; exact ⟨p, c, List.mem_range.mp hp, hc, (Option.some.inj e).symm⟩
  · rintro ⟨p, c, hp, hc, e⟩
    exact ⟨p, List.mem_range.mpr hp, by rw [chF_some hc, e]⟩
theorem chs_ne {n : Int} {top : Int} {ws : List (List Int)} {row : List (Option Int)} {ah : List Int} {s : Nat} (h : Prices n top row) : chs n.toNat ws row ah s ≠ [] := by
  obtain ⟨x, hx⟩ := h.some
  obtain ⟨p, hp⟩ := List.mem_iff_getElem?.mp hx
  have hl := (List.getElem?_eq_some_iff.mp hp).1
  have := h.len
  refine List.ne_nil_of_mem (chs_mem.mpr ⟨p, x, by omega, ?_, rfl⟩)
  rw [List.getD_eq_getElem?_getD, hp]; rfl
theorem chs_none {n : Nat} {ws : List (List Int)} {row : List (Option Int)} {ah : List Int} {s : Nat} (h : row.getD n none = none) : chs (n + 1) ws row ah s = chs n ws row ah s := by
  unfold chs
  rw [List.range_succ, List.filterMap_append, List.filterMap_cons, chF_none h, List.filterMap_nil, List.append_nil]
theorem chs_some {n : Nat} {ws : List (List Int)} {row : List (Option Int)} {ah : List Int} {s : Nat} {c : Int} (h : row.getD n none = some c) : chs (n + 1) ws row ah s = chs n ws row ah s ++ [(mat ws s n + c + ah.getD n 0, (n : Int))] := by
  unfold chs
  rw [List.range_succ, List.filterMap_append, List.filterMap_cons, chF_some h, List.filterMap_nil]
theorem chs_len (n : Nat) (ws : List (List Int)) (row : List (Option Int)) (ah : List Int) (s : Nat) : (chs n ws row ah s).length ≤ n := by
  unfold chs
  exact Nat.le_trans (List.length_filterMap_le _ _) (Nat.le_of_eq List.length_range)
theorem getDat {α : Type} {xs : List α} {i : Nat} (d : α) (h : i < xs.length) : xs[i]? = some (xs.getD i d) := by
  rw [List.getD_eq_getElem?_getD, List.getElem?_eq_getElem h]; rfl
/-- a pair of two ints -/
def PrT (H : Hp) (v : V) (p : Int × Int) : Prop := IntT H v [p.1, p.2]
theorem PrT.firm : Firm PrT := fun H H' v p k h => IntT.firm H H' v _ k h
def pd (p : Int × Int) : PyData := .tuple [.int p.1, .int p.2]
theorem dp_pairs {K : PySem.W.Frag} {H : Hp} : ∀ {vs : List V} {ps : List (Int × Int)}, Paired (PrT H) vs ps → DpAll K H vs (ps.map pd)
  | _, _, .nil => .nil
  | _, _, .cons r t => by
    obtain ⟨a, rfl, ha⟩ := r
    exact .cons (.tup (SqT.of ha) (.cons (.int _) (.cons (.int _) .nil))) (dp_pairs t)
theorem alike_pairs (ps : List (Int × Int)) : PySem.W.AlikeAll (ps.map pd) := by
  refine ⟨fun x hx y hy => ?_, fun x hx => ?_⟩
  · obtain ⟨p, _, rfl⟩ := List.mem_map.mp hx
    obtain ⟨q, _, rfl⟩ := List.mem_map.mp hy
    simp [pd, PySem.W.alike, PySem.W.alikeAll]
  · obtain ⟨p, _, rfl⟩ := List.mem_map.mp hx
    intro h; cases h
theorem depth_pairs : ∀ ps : List (Int × Int), PyData.depthAll (ps.map pd) ≤ 60
  | [] => by simp [PyData.depthAll]
  | p :: ps => by
    have := depth_pairs ps
    simp only [List.map_cons, PyData.depthAll, pd, PyData.depth]
    omega
/-- less, for pairs -/
def ltP (p q : Int × Int) : Prop := p.1 < q.1 ∨ (p.1 = q.1 ∧ p.2 < q.2)
theorem minD_pairs (ps : List (Int × Int)) : ∀ p, ∃ q, PySem.W.minD (pd p) (ps.map pd) = pd q ∧ q ∈ p :: ps ∧ ∀ r ∈ p :: ps, q.1 ≤ r.1 := by
  induction ps with
  | nil => intro p; exact ⟨p, rfl, List.mem_cons_self, fun r hr => by rw [List.mem_singleton.mp hr]; exact Int.le_refl _⟩
  | cons z t ih =>
    intro p
    have e : PySem.W.minD (pd p) ((z :: t).map pd) = PySem.W.minD (if PySem.W.dataLt (pd z) (pd p) then pd z else pd p) (t.map pd) := rfl
    have el : PySem.W.dataLt (pd z) (pd p) = decide (z.1 < p.1 ∨ (z.1 = p.1 ∧ z.2 < p.2)) := PySem.W.dataLt_ii _ _ _ _
    rw [e, el]
    by_cases h : z.1 < p.1 ∨ (z.1 = p.1 ∧ z.2 < p.2)
    · rw [decide_eq_true h, if_pos rfl]
      obtain ⟨q, h1, h2, h3⟩ := ih z
      refine ⟨q, h1, List.mem_cons_of_mem _ h2, fun r hr => ?_⟩
      rcases List.mem_cons.mp hr with e | hr
      · subst e
        have := h3 z List.mem_cons_self
        omega
      · exact h3 r hr
    · rw [decide_eq_false h, if_neg (by simp)]
      obtain ⟨q, h1, h2, h3⟩ := ih p
      refine ⟨q, h1, ?_, fun r hr => ?_⟩
      · rcases List.mem_cons.mp h2 with e | h2
        · rw [e]; exact List.mem_cons_self
        · exact List.mem_cons_of_mem _ (List.mem_cons_of_mem _ h2)
      · rcases List.mem_cons.mp hr with e | hr
        · subst e; exact h3 _ List.mem_cons_self
        · rcases List.mem_cons.mp hr with e | hr
          · subst e
            have := h3 p List.mem_cons_self
            omega
          · exact h3 r (List.mem_cons_of_mem _ hr)
/-- the reading of min of such a list -/
theorem min_pairs {K : PySem.W.Frag} {H : Hp} {l : Addr} {us : List V} {ps : List (Int × Int)} {Q : VK} (hl : H l = some (.lst us)) (hp : Paired (PrT H) us ps) (hne : ps ≠ [])
    (h : ∀ v q, PrT H v q → q ∈ ps → q.1 = minL (ps.map (·.1)) → Q v H) : rMinD K [.ref l] H Q := by
  cases ps with
  | nil => exact absurd rfl hne
  | cons p ps =>
    refine ⟨l, us, pd p, ps.map pd, rfl, SqL.of hl, dp_pairs hp, alike_pairs (p :: ps), depth_pairs (p :: ps), fun i v hv hd => ?_⟩
    obtain ⟨q, e, hq, hmin⟩ := minD_pairs ps p
    rw [e] at hd
    obtain ⟨q', hq', hv'⟩ := prd_at1 hp hv
    have : ((p :: ps).map pd)[i]? = some (pd q) := hd
    rw [List.getElem?_map, hq'] at this
    have eq1 : pd q' = pd q := Option.some.inj this
    have eq2 : q' = q := by
      unfold pd at eq1
      injection eq1 with a
      injection a with b c
      injection b with b
      injection c with c _
      injection c with c
      exact Prod.ext b c
    subst eq2
    refine h v q' hv' hq (minL_eq (List.mem_map.mpr ⟨q', hq, rfl⟩) ?_).symm
    intro y hy
    obtain ⟨r, hr, rfl⟩ := List.mem_map.mp hy
    exact hmin r hr
/-! promises -/
def spPricesM (C : Addr) : Sp := fun vs H Q _ => ∃ (p : Addr) (S : Sys) (z : Str) (row : List (Option Int)), vs = [.ref p, .str z] ∧ SysOk S ∧ SysAt C H p S ∧ (z, row) ∈ S.rs ∧ ∀ v, OptT H v row → Q v H
def RowAt (H : Hp) (v : V) (zs : List Str) : Prop := ∃ a, v = .ref a ∧ (H a = some (.tup (zs.map V.str)) ∨ H a = some (.lst (zs.map V.str)))
def spCheckRow (C : Addr) : Sp := fun vs H Q _ => ∃ (p : Addr) (S : Sys) (v : V) (zs : List Str), vs = [.ref p, v] ∧ SysOk S ∧ SysAt C H p S ∧ RowAt H v zs ∧ (∀ z ∈ zs, z ∈ S.rs.map (·.1)) ∧ ∀ H', Same H H' → Q .non H'
def spChoices (C : Addr) : Sp := fun vs H Q _ => ∃ (p : Addr) (S : Sys) (z : Str) (row : List (Option Int)) (s : Nat) (v : V) (ah : List Int), vs = [.ref p, .int s, .str z, v] ∧ SysOk S ∧ SysAt C H p S ∧ (z, row) ∈ S.rs ∧ (s : Int) < S.n ∧ IntT H v ah ∧ (ah.length : Int) = S.n ∧
  ∀ l us H', Same H H' → H' l = some (.lst us) → Paired (PrT H') us (chs S.n.toNat S.ws row ah s) → Q (.ref l) H'
def spCeilings (C : Addr) : Sp := fun vs H Q _ => ∃ (p : Addr) (S : Sys) (z : Str) (row : List (Option Int)) (v : V) (ah : List Int), vs = [.ref p, .str z, v] ∧ SysOk S ∧ SysAt C H p S ∧ (z, row) ∈ S.rs ∧ IntT H v ah ∧ (ah.length : Int) = S.n ∧
  ∀ v' H', Same H H' → IntT H' v' (ceil S.n.toNat S.ws row ah) → Q v' H'
end Toy

namespace Toy
open PySem PySem.Spec PyProof.Rows L2
/-- a service of some rows: where one went, what it cost, where one stands -/
inductive Run (n : Nat) (ws : List (List Int)) : List (List (Option Int)) → List Nat → Int → Nat → Prop
  | nil : Run n ws [] [] 0 0
  | snoc {rs : List (List (Option Int))} {ps : List Nat} {c : Int} {a : Nat} {r : List (Option Int)} {p : Nat} {k : Int} : Run n ws rs ps c a → p < n → r.getD p none = some k → Run n ws (rs ++ [r]) (ps ++ [p]) (c + mat ws a p + k) p
theorem Run.lt {n : Nat} (hn : 0 < n) {ws : List (List Int)} {rs : List (List (Option Int))} {ps : List Nat} {c : Int} {a : Nat} (h : Run n ws rs ps c a) : a < n := by
  cases h with
  | nil => exact hn
  | snoc _ hp _ => exact hp
theorem Run.len {n : Nat} {ws : List (List Int)} {rs : List (List (Option Int))} {ps : List Nat} {c : Int} {a : Nat} (h : Run n ws rs ps c a) : ps.length = rs.length := by
  induction h with
  | nil => rfl
  | snoc _ _ _ ih => simp [ih]
theorem Run.fn {n : Nat} {ws : List (List Int)} {rs : List (List (Option Int))} {ps : List Nat} {c : Int} {a : Nat} (h : Run n ws rs ps c a) : ∀ {c' : Int} {a' : Nat}, Run n ws rs ps c' a' → c = c' ∧ a = a' := by
  induction h with
  | nil =>
    intro c' a' h'
    generalize e1 : ([] : List (List (Option Int))) = rs at h'
    generalize e2 : ([] : List Nat) = ps at h'
    cases h' with
    | nil => exact ⟨rfl, rfl⟩
    | snoc _ _ _ => simp at e1
  | @snoc rs ps c a r p k _ hp hk ih =>
    intro c' a' h'
    generalize e1 : rs ++ [r] = rs' at h'
    generalize e2 : ps ++ [p] = ps' at h'
    cases h' with
    | nil => simp at e1
    | @snoc rs₂ ps₂ c₂ a₂ r₂ p₂ k₂ h2 hp2 hk2 =>
      obtain ⟨q1, q2⟩ := List.append_inj' e1 rfl
      obtain ⟨q3, q4⟩ := List.append_inj' e2 rfl
      subst q1; subst q3
      obtain rfl : r = r₂ := by simpa using q2
      obtain rfl : p = a' := by simpa using q4
      obtain ⟨rfl, rfl⟩ := ih h2
      rw [hk] at hk2
      obtain rfl := Option.some.inj hk2
      exact ⟨rfl, rfl⟩
theorem Run.congr {n : Nat} (hn : 0 < n) {ws ws' : List (List Int)} (e : ∀ i j, i < n → j < n → mat ws i j = mat ws' i j) {rs : List (List (Option Int))} {ps : List Nat} {c : Int} {a : Nat} (h : Run n ws rs ps c a) : Run n ws' rs ps c a := by
  induction h with
  | nil => exact .nil
  | snoc h0 hp hk ih =>
    rw [e _ _ (h0.lt hn) hp]
    exact .snoc ih hp hk
/-- the last step -/
theorem Run.inv {n : Nat} {ws : List (List Int)} {rs : List (List (Option Int))} {r : List (Option Int)} {ps' : List Nat} {c : Int} {a : Nat} (h : Run n ws (rs ++ [r]) ps' c a) : ∃ ps c0 a0 k, ps' = ps ++ [a] ∧ Run n ws rs ps c0 a0 ∧ a < n ∧ r.getD a none = some k ∧ c = c0 + mat ws a0 a + k := by
  generalize e1 : rs ++ [r] = rs' at h
  cases h with
  | nil => simp at e1
  | @snoc rs₂ ps₂ c₂ a₂ r₂ p₂ k₂ h2 hp2 hk2 =>
    obtain ⟨q1, q2⟩ := List.append_inj' e1 rfl
    subst q1
    obtain rfl : r = r₂ := by simpa using q2
    exact ⟨ps₂, c₂, a₂, k₂, rfl, h2, hp2, hk2, rfl⟩
theorem Run.take {n : Nat} {ws : List (List Int)} {rs : List (List (Option Int))} {ps : List Nat} {c : Int} {a : Nat} (h : Run n ws rs ps c a) : ∀ k, ∃ c' a', Run n ws (rs.take k) (ps.take k) c' a' := by
  induction h with
  | nil => intro k; exact ⟨0, 0, by simpa using Run.nil⟩
  | @snoc rs ps c a r p k' h0 hp hk ih =>
    intro k
    have hl := h0.len
    by_cases hk2 : k ≤ rs.length
    · rw [List.take_append_of_le_length hk2, List.take_append_of_le_length (by omega)]
      exact ih k
    · rw [List.take_of_length_le (by simp; omega), List.take_of_length_le (by simp; omega)]
      exact ⟨_, _, .snoc h0 hp hk⟩
theorem ceil_at {n : Nat} {ws : List (List Int)} {row : List (Option Int)} {ah : List Int} {s : Nat} (h : s < n) : (ceil n ws row ah).getD s 0 = minL ((chs n ws row ah s).map (·.1)) := by
  unfold ceil
  rw [List.getD_eq_getElem?_getD, List.getElem?_map, List.getElem?_range h]
  rfl
theorem ceil_le {n : Nat} {ws : List (List Int)} {row : List (Option Int)} {ah : List Int} {s p : Nat} {k : Int} (h : s < n) (hp : p < n) (hk : row.getD p none = some k) : (ceil n ws row ah).getD s 0 ≤ mat ws s p + k + ah.getD p 0 := by
  rw [ceil_at h]
  exact minL_le (List.mem_map.mpr ⟨_, chs_mem.mpr ⟨p, k, hp, hk, rfl⟩, rfl⟩)
/-- no service is cheaper -/
theorem Run.low {n : Nat} (hn : 0 < n) {ws : List (List Int)} {rs : List (List (Option Int))} {ps : List Nat} {c : Int} {a : Nat} (h : Run n ws rs ps c a) : ∀ rest, (val n ws (rs ++ rest)).getD 0 0 ≤ c + (val n ws rest).getD a 0 := by
  induction h with
  | nil => intro rest; simp
  | @snoc rs ps c a r p k h0 hp hk ih =>
    intro rest
    have h1 := ih (r :: rest)
    rw [List.append_assoc]
    have h2 := ceil_le (ws := ws) (ah := val n ws rest) (h0.lt hn) hp hk
    have h3 : (val n ws (r :: rest)).getD a 0 = (ceil n ws r (val n ws rest)).getD a 0 := rfl
    rw [h3] at h1
    have h4 : rs ++ r :: rest = rs ++ ([r] ++ rest) := rfl
    rw [h4] at h1
    omega
theorem val_nil {n : Nat} {ws : List (List Int)} {a : Nat} : (val n ws []).getD a 0 = 0 := by
  unfold val
  rw [List.getD_eq_getElem?_getD, List.getElem?_replicate]
  split <;> rfl
theorem Run.ge {n : Nat} (hn : 0 < n) {ws : List (List Int)} {rs : List (List (Option Int))} {ps : List Nat} {c : Int} {a : Nat} (h : Run n ws rs ps c a) : (val n ws rs).getD 0 0 ≤ c := by
  have := h.low hn []
  rw [List.append_nil, val_nil] at this
  omega
def vals (n : Nat) (ws : List (List Int)) : List (List (Option Int)) → List (List Int)
  | [] => [val n ws []]
  | r :: t => val n ws (r :: t) :: vals n ws t
theorem vals_len {n : Nat} {ws : List (List Int)} : ∀ rs, (vals n ws rs).length = rs.length + 1
  | [] => rfl
  | _ :: t => by simp [vals, vals_len t]
theorem vals_at {n : Nat} {ws : List (List Int)} : ∀ (rs : List (List (Option Int))) (i : Nat), i ≤ rs.length → (vals n ws rs)[i]? = some (val n ws (rs.drop i))
  | [], 0, _ => rfl
  | r :: t, 0, _ => rfl
  | r :: t, i + 1, h => by
    have := vals_at (n := n) (ws := ws) t i (by simpa using h)
    simpa [vals] using this
  | [], i + 1, h => by simp at h
/-- the rows of the names -/
def RowsOf (S : Sys) (zs : List Str) (rs : List (List (Option Int))) : Prop := Paired (fun z r => (z, r) ∈ S.rs) zs rs
theorem prd_rev {α β : Type} {F : α → β → Prop} {xs : List α} {ys : List β} (h : Paired F xs ys) : Paired F xs.reverse ys.reverse := by
  induction h with
  | nil => exact .nil
  | cons r _ ih =>
    rw [List.reverse_cons, List.reverse_cons]
    exact Paired.snoc ih r
def spFloor (C : Addr) : Sp := fun vs H Q _ => ∃ (p : Addr) (S : Sys) (v : V) (zs : List Str) (rs : List (List (Option Int))), vs = [.ref p, v] ∧ SysOk S ∧ SysAt C H p S ∧ RowAt H v zs ∧ RowsOf S zs rs ∧ zs.length ≤ 900 ∧
  ∀ l ts H', Same H H' → H l = none → H' l = some (.lst ts) → Paired (IntT H') ts (vals S.n.toNat S.ws rs) → Q (.ref l) H'
def spWisest (C : Addr) : Sp := fun vs H Q _ => ∃ (p : Addr) (S : Sys) (v : V) (zs : List Str) (rs : List (List (Option Int))), vs = [.ref p, v] ∧ SysOk S ∧ SysAt C H p S ∧ RowAt H v zs ∧ RowsOf S zs rs ∧ zs.length ≤ 900 ∧
  ∀ (t t2 : Addr) (ps : List Nat) (c : Int) (a : Nat) (H' : Hp), Same H H' → H' t = some (.tup [.int c, .ref t2]) → H' t2 = some (.tup ((ps.map fun x => ((x : Nat) : Int)).map V.int)) → Run S.n.toNat S.ws rs ps c a → c = (val S.n.toNat S.ws rs).getD 0 0 → Q (.ref t) H'
theorem walk_revT {K : PySem.W.Frag} {a : Addr} {xs : List V} : Walk (RT.ItvT K a xs.length) xs.length (fun H => SqT K H a xs) (fun i H x H' => H' = H ∧ xs[xs.length - 1 - i]? = some x) :=
  ⟨fun i _ hi q => ⟨hi, xs, xs[xs.length - 1 - i]'(by omega), q, by simp [show xs.length - 1 - i < xs.length by omega]⟩, fun _ _ => Nat.le_refl _, fun _ _ _ _ _ q y => ⟨y.1, y.2 xs q⟩⟩
/-- a list of lists of ints that is read -/
structure LM (H : Hp) (L : Addr) (n : Nat) (M : Nat → Nat → Int) : Prop where
  ex : ∃ as : List Addr, H L = some (.lst (as.map V.ref)) ∧ as.length = n ∧ ∀ (i : Nat) a, as[i]? = some a → H a = some (.lst (rowV n (M i)))
theorem LM.same {H H' : Hp} {L : Addr} {n : Nat} {M : Nat → Nat → Int} (m : LM H L n M) (k : Same H H') : LM H' L n M := by
  obtain ⟨as, h1, h2, h3⟩ := m.ex
  exact ⟨as, k _ _ h1, h2, fun i a e => k _ _ (h3 i a e)⟩
def spLawWays : Sp := fun vs H Q _ => ∃ (v : V) (rows : List (List Int)) (n top : Int), vs = [v] ∧ TupT IntT H v rows ∧ Square n top rows ∧ 1 ≤ n ∧ n ≤ 100 ∧
  ∀ L M H', Same H H' → LM H' L n.toNat M → Least n.toNat (mat rows) M → Q (.ref L) H'
def prodM (n : Nat) (M R : Nat → Nat → Int) : Nat → Nat → Int := fun i j => minL ((List.range n).map fun c => M i c + R c j)
theorem prodM_le {n : Nat} {M R : Nat → Nat → Int} {i j c : Nat} (h : c < n) : prodM n M R i j ≤ M i c + R c j := minL_le (List.mem_map.mpr ⟨c, List.mem_range.mpr h, rfl⟩)
theorem prodM_has {n : Nat} {M R : Nat → Nat → Int} {i j : Nat} (h : 0 < n) : ∃ c, c < n ∧ prodM n M R i j = M i c + R c j := by
  have hne : (List.range n).map (fun c => M i c + R c j) ≠ [] := by
    intro e
    have := congrArg List.length e
    rw [List.length_map, List.length_range] at this
    simp at this
    omega
  obtain ⟨c, hc, e⟩ := List.mem_map.mp (minL_mem hne)
  exact ⟨c, List.mem_range.mp hc, e.symm⟩
/-- the requests of a dict, in rows -/
structure ReqAt (H : Hp) (d : Addr) (n : Int) (rs0 : List (Str × List (Option Int))) : Prop where
  ex : ∃ kvs, H d = some (.dK kvs) ∧ DctOf OptT H kvs rs0
  nd : (rs0.map (·.1)).Nodup
  pr : ∀ q ∈ rs0, Prices n 9 q.2
theorem ReqAt.same {H H' : Hp} {d : Addr} {n : Int} {rs0 : List (Str × List (Option Int))} (r : ReqAt H d n rs0) (k : Same H H') : ReqAt H' d n rs0 := by
  obtain ⟨kvs, h1, h2⟩ := r.ex
  exact ⟨⟨kvs, k _ _ h1, h2.firm OptT.firm (same_tups k)⟩, r.nd, r.pr⟩
theorem ReqAt.get {H : Hp} {d : Addr} {n : Int} {rs0 : List (Str × List (Option Int))} (r : ReqAt H d n rs0) {z : Str} {row : List (Option Int)} (h : (z, row) ∈ rs0) : ∃ a, DGet H d (.str z) (some (.ref a)) ∧ H a = some (.tup (row.map vO)) := by
  obtain ⟨kvs, h1, h2⟩ := r.ex
  obtain ⟨v, hv, a, rfl, ha⟩ := dct_some h2 r.nd h
  exact ⟨a, by rw [← hv]; exact DGet.k (k := Sum.inr z) h1, ha⟩
/-- all services one request longer -/
def extF (M : Nat → Nat → Int) (r : List (Option Int)) (q : Int × Int) (p : Nat) : Option (Int × Int) := match r.getD p none with
  | some k => some (q.1 + M q.2.toNat p + k, (p : Int))
  | none => none
theorem extF_none {M : Nat → Nat → Int} {r : List (Option Int)} {q : Int × Int} {p : Nat} (h : r.getD p none = none) : extF M r q p = none := by unfold extF; rw [h]
theorem extF_some {M : Nat → Nat → Int} {r : List (Option Int)} {q : Int × Int} {p : Nat} {k : Int} (h : r.getD p none = some k) : extF M r q p = some (q.1 + M q.2.toNat p + k, (p : Int)) := by unfold extF; rw [h]
def ext1 (n : Nat) (M : Nat → Nat → Int) (r : List (Option Int)) (q : Int × Int) : List (Int × Int) := (List.range n).filterMap (extF M r q)
def extA (n : Nat) (M : Nat → Nat → Int) (r : List (Option Int)) (fs : List (Int × Int)) : List (Int × Int) := fs.flatMap (ext1 n M r)
theorem ext1_len (n : Nat) (M : Nat → Nat → Int) (r : List (Option Int)) (q : Int × Int) : (ext1 n M r q).length ≤ n := by
  unfold ext1
  exact Nat.le_trans (List.length_filterMap_le _ _) (Nat.le_of_eq List.length_range)
theorem extA_len (n : Nat) (M : Nat → Nat → Int) (r : List (Option Int)) : ∀ fs : List (Int × Int), (extA n M r fs).length ≤ fs.length * n
  | [] => by simp [extA]
  | q :: fs => by
    have h1 := extA_len n M r fs
    have h2 := ext1_len n M r q
    unfold extA at h1 ⊢
    rw [List.flatMap_cons, List.length_append, List.length_cons, Nat.add_mul, Nat.one_mul]
    omega
theorem extA_app (n : Nat) (M : Nat → Nat → Int) (r : List (Option Int)) (fs : List (Int × Int)) (q : Int × Int) : extA n M r (fs ++ [q]) = extA n M r fs ++ ext1 n M r q := by
  unfold extA
  rw [List.flatMap_append, List.flatMap_cons, List.flatMap_nil, List.append_nil]
theorem extA_mem {n : Nat} {M : Nat → Nat → Int} {r : List (Option Int)} {fs : List (Int × Int)} {y : Int × Int} : y ∈ extA n M r fs ↔ ∃ q ∈ fs, ∃ p k, p < n ∧ r.getD p none = some k ∧ y = (q.1 + M q.2.toNat p + k, (p : Int)) := by
  unfold extA
  rw [List.mem_flatMap]
  constructor
  · rintro ⟨q, hq, hy⟩
    unfold ext1 at hy
    obtain ⟨p, hp, e⟩ := List.mem_filterMap.mp hy
    cases hc : r.getD p none with
    | none => rw [extF_none hc] at e; cases e
    | some k => rw [extF_some hc] at e; exact ⟨q, hq, p, k, List.mem_range.mp hp, hc, (Option.some.inj e).symm⟩
  · rintro ⟨q, hq, p, k, hp, hc, e⟩
    exact ⟨q, hq, List.mem_filterMap.mpr ⟨p, List.mem_range.mpr hp, by rw [extF_some hc, e]⟩⟩
/-- found: all services so far -/
structure Found (n : Nat) (ws : List (List Int)) (rs : List (List (Option Int))) (fs : List (Int × Int)) : Prop where
  snd : ∀ q ∈ fs, ∃ ps a, q.2 = ((a : Nat) : Int) ∧ Run n ws rs ps q.1 a
  cpl : ∀ ps c a, Run n ws rs ps c a → (c, ((a : Nat) : Int)) ∈ fs
theorem Found.step {n : Nat} (hn : 0 < n) {ws : List (List Int)} {M : Nat → Nat → Int} (e : ∀ i j, i < n → j < n → M i j = mat ws i j) {rs : List (List (Option Int))} {fs : List (Int × Int)} (f : Found n ws rs fs) (r : List (Option Int)) : Found n ws (rs ++ [r]) (extA n M r fs) := by
  refine ⟨fun y hy => ?_, fun ps c a h => ?_⟩
  · obtain ⟨q, hq, p, k, hp, hk, rfl⟩ := extA_mem.mp hy
    obtain ⟨ps, a, ea, hr⟩ := f.snd q hq
    refine ⟨ps ++ [p], p, rfl, ?_⟩
    rw [ea, Int.toNat_natCast, e _ _ (hr.lt hn) hp]
    exact .snoc hr hp hk
  · obtain ⟨ps0, c0, a0, k, rfl, hr, ha, hk, rfl⟩ := h.inv
    refine extA_mem.mpr ⟨(c0, (a0 : Int)), f.cpl _ _ _ hr, a, k, ha, hk, ?_⟩
    rw [Int.toNat_natCast, e _ _ (hr.lt hn) ha]
theorem extA_ne {n : Int} {M : Nat → Nat → Int} {r : List (Option Int)} {fs : List (Int × Int)} (h : Prices n 9 r) (hf : fs ≠ []) : extA n.toNat M r fs ≠ [] := by
  obtain ⟨x, hx⟩ := h.some
  obtain ⟨p, hp⟩ := List.mem_iff_getElem?.mp hx
  have hl := (List.getElem?_eq_some_iff.mp hp).1
  have hn := h.len
  cases fs with
  | nil => exact absurd rfl hf
  | cons q t =>
    exact List.ne_nil_of_mem (extA_mem.mpr ⟨q, List.mem_cons_self, p, x, by omega, by rw [List.getD_eq_getElem?_getD, hp]; rfl, rfl⟩)
def spLawServices : Sp := fun vs H Q _ => ∃ (L d l : Addr) (M : Nat → Nat → Int) (n : Int) (rs0 : List (Str × List (Option Int))) (zs : List Str) (rs : List (List (Option Int))) (ws : List (List Int)), vs = [.ref L, .ref d, .ref l] ∧ LM H L n.toNat M ∧ 1 ≤ n ∧ n ≤ 6 ∧
  (∀ i j, i < n.toNat → j < n.toNat → M i j = mat ws i j) ∧ ReqAt H d n rs0 ∧ H l = some (.lst (zs.map V.str)) ∧ Paired (fun z r => (z, r) ∈ rs0) zs rs ∧ zs.length ≤ 6 ∧
  ∀ (m : Int) (H' : Hp), Same H H' → (∃ ps a, Run n.toNat ws rs ps m a) → (∀ ps c a, Run n.toNat ws rs ps c a → m ≤ c) → Q (.int m) H'
def spLawPrice : Sp := fun vs H Q _ => ∃ (L d l t : Addr) (M : Nat → Nat → Int) (n : Int) (rs0 : List (Str × List (Option Int))) (zs : List Str) (rs : List (List (Option Int))) (ws : List (List Int)) (ps : List Nat) (c : Int) (a : Nat), vs = [.ref L, .ref d, .ref l, .ref t] ∧ LM H L n.toNat M ∧ 1 ≤ n ∧ n ≤ 6 ∧
  (∀ i j, i < n.toNat → j < n.toNat → M i j = mat ws i j) ∧ ReqAt H d n rs0 ∧ H l = some (.lst (zs.map V.str)) ∧ Paired (fun z r => (z, r) ∈ rs0) zs rs ∧ zs.length ≤ 900 ∧ H t = some (.tup ((ps.map fun x => ((x : Nat) : Int)).map V.int)) ∧ Run n.toNat ws rs ps c a ∧
  ∀ H', Same H H' → Q (.int c) H'
def spLawRow : Sp := fun vs H Q _ => ∃ (d c l : Addr) (zs : List Str) (m : Int), vs = [.ref d, .ref l, .int m] ∧ Dice c H d ∧ H l = some (.lst (zs.map V.str)) ∧ l ≠ d ∧ 1 ≤ zs.length ∧ zs.length ≤ 1000 ∧ 0 ≤ m ∧ m ≤ 900 ∧
  ∀ (R : Addr) (ys : List Str) (H' : Hp), H R = none → H' R = some (.lst (ys.map V.str)) → (ys.length : Int) ≤ m → (∀ y ∈ ys, y ∈ zs) → Keep d H H' → Dice c H' d → Q (.ref R) H'
end Toy

namespace Toy
open PySem PySem.Spec PyProof.Rows L2
section
variable {X : Cx}
/-! flags by their identity -/
def rIsB : R2 := fun x y H Q => ∃ b c, x = .bl b ∧ y = .bl c ∧ Q (.bl (b == c)) H
def rNotB : R2 := fun x y H Q => ∃ b c, x = .bl b ∧ y = .bl c ∧ Q (.bl (b != c)) H
theorem op_isB : OpR X (compareOp .Is) rIsB := by
  intro pins s σ H x y v u Q I rx ry h
  obtain ⟨b, c, rfl, rfl, q⟩ := h
  cases rx
  cases ry
  exact is_bool (fin_bl I q rfl)
theorem op_notB : OpR X (compareOp .IsNot) rNotB := by
  intro pins s σ H x y v u Q I rx ry h
  obtain ⟨b, c, rfl, rfl, q⟩ := h
  cases rx
  cases ry
  exact isnot_bool (fin_bl I q rfl)
/-! the greatest of a tuple of ints -/
theorem dp_ints {K : PySem.W.Frag} {H : Hp} : ∀ ns : List Int, DpAll K H (ns.map V.int) (ns.map PyData.int)
  | [] => .nil
  | n :: r => .cons (.int n) (dp_ints r)
theorem alike_ints (ns : List Int) : PySem.W.AlikeAll (ns.map PyData.int) := by
  constructor
  · intro x hx y hy
    obtain ⟨i, _, rfl⟩ := List.mem_map.mp hx
    obtain ⟨j, _, rfl⟩ := List.mem_map.mp hy
    simp [PySem.W.alike]
  · intro x hx
    obtain ⟨i, _, rfl⟩ := List.mem_map.mp hx
    intro z; cases z
theorem depth_ints : ∀ ns : List Int, PyData.depthAll (ns.map PyData.int) ≤ 1
  | [] => by simp [PyData.depthAll]
  | n :: r => by
    have := depth_ints r
    simp only [List.map_cons, PyData.depthAll, PyData.depth]
    omega
def rMaxT (K : PySem.W.Frag) : List V → Hp → VK → Prop := fun vs H Q => ∃ (a : Addr) (k : Int) (ks : List Int), vs = [V.ref a] ∧ SqT K H a ((k :: ks).map V.int) ∧ Q (.int (ks.foldl max k)) H
theorem cr_maxT (hc : X.calm = true) (hu : X.A.units + 64 < cLine) : CallR X (.builtin "max") (rMaxT X.K) := by
  intro pins s σ H vs us Q I r h
  obtain ⟨a, k, ks, rfl, hs, q⟩ := h
  obtain ⟨u, rfl, ru⟩ := vals1 r
  obtain rfl : u = Value.ref a := ru
  obtain ⟨its, rv, p, _⟩ := I.tuple hs
  obtain ⟨as, hr⟩ := Dp.readsAll I ((k :: ks).map PyData.int) ((k :: ks).map V.int) its (dp_ints _) rv
  have hd := depth_ints (k :: ks)
  refine PySem.W.max_tuple_data (x := PyData.int k) (xs := ks.map PyData.int) (I.ok.hd hc) p (by simpa using hr) (alike_ints (k :: ks)) (by
    have : PyData.depthAll (PyData.int k :: ks.map PyData.int) ≤ 1 := hd
    omega) fun i v h' tk bs hv hrd hk => ?_
  rw [PySem.W.maxD_ints] at hrd
  rw [List.getElem?_toArray] at hv
  obtain ⟨x, hx, rx⟩ := prd_at2 rv hv
  obtain ⟨j, _, rfl⟩ := map_at hx
  obtain ⟨t, rfl⟩ := rx
  have e := (hrd.unique _ _ (Reads.int j t)).1
  cases e
  exact ⟨.int _, H, I.kept (t' := tk) hk, ⟨t, rfl⟩, q⟩
end
theorem walk_zipT {K : PySem.W.Frag} {a b : Addr} {xs ys : List V} {n : Nat} (hn : n = min xs.length ys.length) : Walk (RZ.ItzT K a b) n (fun H => SqT K H a xs ∧ SqT K H b ys) (YPair (fun i => xs[i]?) (fun i => ys[i]?)) := by
  subst hn
  refine ⟨fun i _ hi q => ?_, fun _ q => ⟨xs, ys, q.1, q.2, by omega⟩, fun i H v H' _ q y => ?_⟩
  · have h1 : i < xs.length := by omega
    have h2 : i < ys.length := by omega
    exact ⟨xs, ys, xs[i], ys[i], q.1, q.2, by simp [h1], by simp [h2]⟩
  · obtain ⟨T, x, z, h1, h2, h3, h4, h5⟩ := y
    exact ⟨T, x, z, h1, h2, h3, h4 xs q.1, h5 ys q.2⟩
theorem max_zeros : ∀ n : Nat, (List.replicate n (0 : Int)).foldl max 0 = 0
  | 0 => rfl
  | n + 1 => by rw [List.replicate_succ, List.foldl_cons]; exact max_zeros n
end Toy

namespace Toy
open PySem PySem.Spec PyProof.Rows L2
/-! zip of three tuples -/
def Itz3 (K : PySem.W.Frag) (a b e : Addr) : It :=
  ⟨fun i H => ∃ (xs ys zs : List V) (x y u : V), SqT K H a xs ∧ SqT K H b ys ∧ SqT K H e zs ∧ xs[i]? = some x ∧ ys[i]? = some y ∧ zs[i]? = some u,
    fun i H v H' => ∃ T x y u, v = .ref T ∧ H T = none ∧ H' = upd H T (.tup [x, y, u]) ∧ (∀ xs, SqT K H a xs → xs[i]? = some x) ∧ (∀ ys, SqT K H b ys → ys[i]? = some y) ∧ ∀ zs, SqT K H e zs → zs[i]? = some u,
    fun i H => ∃ xs ys zs : List V, SqT K H a xs ∧ SqT K H b ys ∧ SqT K H e zs ∧ xs.length = i ∧ ys.length = i ∧ zs.length = i⟩
theorem turn_zip3 {P : Program} {w : World} {K : PySem.W.Frag} {elts : List Expr} {kk : Nat} {tpos : Pos} {a b e z TI TO i1 i2 i3 : Addr} (D : ZipSep3 z TI TO i1 i2 i3 [i1, a] [i2, b] [i3, e]) (na : a ≠ i1) (nb : b ≠ i2) (ne : e ≠ i3) :
    Turn P w K (.Tuple elts kk tpos) (Itz3 K a b e) [z, TI, TO, i1, i2, i3] z (fun i h => IsZip h z TI TO .none ∧ IsTupOf3 h TI (.ref i1) (.ref i2) (.ref i3) ∧ (∃ x y u, IsTupOf3 h TO x y u) ∧ h.IsTupleIter i1 a i ∧ h.IsTupleIter i2 b i ∧ h.IsTupleIter i3 e i) where
  mem := by simp
  obj := fun i h st c hc => by
    obtain ⟨hz, hTI, ⟨x, y, u, hTO⟩, ⟨o1, e1, _, d1⟩, ⟨o2, e2, _, d2⟩, ⟨o3, e3, _, d3⟩⟩ := st
    have e' : c = z ∨ c = TI ∨ c = TO ∨ c = i1 ∨ c = i2 ∨ c = i3 := by simpa using hc
    rcases e' with q | q | q | q | q | q
    · rw [q]; exact ⟨_, hz, fun v q => nomatch q⟩
    · rw [q]; exact ⟨_, hTI, fun v q => nomatch q⟩
    · rw [q]; exact ⟨_, hTO, fun v q => nomatch q⟩
    · rw [q]; exact ⟨o1, e1, fun v q => by rw [d1] at q; cases q⟩
    · rw [q]; exact ⟨o2, e2, fun v q => by rw [d2] at q; cases q⟩
    · rw [q]; exact ⟨o3, e3, fun v q => by rw [d3] at q; cases q⟩
  keep := fun i h h' st k => by
    obtain ⟨hz, hTI, ⟨x, y, u, hTO⟩, h1, h2, h3⟩ := st
    exact ⟨k z (by simp) _ hz, k TI (by simp) _ hTI, ⟨x, y, u, k TO (by simp) _ hTO⟩, h1.at fun o q => k i1 (by simp) o q, h2.at fun o q => k i2 (by simp) o q, h3.at fun o q => k i3 (by simp) o q⟩
  item := by
    intro X hP hw hK hc i pins s σ H E I hf st hg
    subst hP hw hK
    obtain ⟨hz, hTI, ⟨x0, y0, u0, hTO⟩, h1, h2, h3⟩ := st
    obtain ⟨xs, ys, zs, x, y, u, hqx, hqy, hqz, hx, hy, hu⟩ := hg
    obtain ⟨its, rv, p, _⟩ := I.tuple hqx
    obtain ⟨its2, rv2, p2, _⟩ := I.tuple hqy
    obtain ⟨its3, rv3, p3, _⟩ := I.tuple hqz
    obtain ⟨v1, hv1, r1⟩ := rv.get hx
    obtain ⟨v2, hv2, r2⟩ := rv2.get hy
    obtain ⟨v3, hv3, r3⟩ := rv3.get hu
    have hh : X.A.in1.handled = none := I.ok.hd hc
    have hzl : z < s.heap.objs.size := Heap.lt_size hz
    refine wpAny_pyNext_zipD3_item D (Draws.tuple (prog := X.prog) (w := X.w) hh i1 a na its.toArray) (Draws.tuple (prog := X.prog) (w := X.w) hh i2 b nb its2.toArray) (Draws.tuple (prog := X.prog) (w := X.w) hh i3 e ne its3.toArray) hz hTI hTO ⟨h1, p⟩ ⟨h2, p2⟩ ⟨h3, p3⟩
      (by rw [List.size_toArray]; exact (List.getElem?_eq_some_iff.mp hv1).1) (by rw [List.size_toArray]; exact (List.getElem?_eq_some_iff.mp hv2).1) (by rw [List.size_toArray]; exact (List.getElem?_eq_some_iff.mp hv3).1) fun w1 w2 w3 h' tk g1 g2 g3 z' TO' s1' s2' s3' hT hsz hk => ?_
    have q1 : w1 = v1 := by
      have g : its.toArray[i]? = some w1 := g1
      rw [List.getElem?_toArray, hv1] at g
      exact (Option.some.inj g).symm
    have q2 : w2 = v2 := by
      have g : its2.toArray[i]? = some w2 := g2
      rw [List.getElem?_toArray, hv2] at g
      exact (Option.some.inj g).symm
    have q3 : w3 = v3 := by
      have g : its3.toArray[i]? = some w3 := g3
      rw [List.getElem?_toArray, hv3] at g
      exact (Option.some.inj g).symm
    subst q1; subst q2; subst q3
    refine ⟨_, rfl, wpAny_letOwnedTupleGo_zip (s := { s with heap := h', toks := tk }) z' fun h'' z'' sb => ?_⟩
    have hT2 : h''.get? s.heap.objs.size = some { cls := .type "tuple", data := .seq #[w1, w2, w3] } := (sb.2 _ (Nat.ne_of_gt hzl)).trans hT
    have new : ObjOk X.prog X.w (upd H s.heap.objs.size (.tup [x, y, u])) h'' s.heap.objs.size (.tup [x, y, u]) :=
      ⟨(by show 3 ≤ sizeLine; decide), [w1, w2, w3], .cons r1 (.cons r2 (.cons r3 .nil)), ⟨_, hT2, rfl, _, rfl⟩⟩
    have I1 : Inv X pins σ (upd H s.heap.objs.size (.tup [x, y, u])) { s with heap := h'', toks := tk } :=
      I.turnedNew (ch := [z, TI, TO, i1, i2, i3]) (fun c o hb q => (sb.2 c (fun q' => hb (by simp [q']))).trans (hk c o (fun q' => hb (by simp [q'])) (fun q' => hb (by simp [q'])) (fun q' => hb (by simp [q'])) (fun q' => hb (by simp [q'])) (fun q' => hb (by simp [q'])) q)) hf (Nat.le_refl _) new
    refine ⟨.ref s.heap.objs.size, _, I1, rfl, ⟨_, x, y, u, rfl, I.hok.fresh (Nat.le_refl _), rfl, fun l hl => by rw [I.tuple_inj hl hqx]; exact hx, fun l hl => by rw [I.tuple_inj hl hqy]; exact hy, fun l hl => by rw [I.tuple_inj hl hqz]; exact hu⟩, ⟨z'', ?_, ⟨w1, w2, w3, ?_⟩, ?_, ?_, ?_⟩, fun c hcm => ?_⟩
    · exact (sb.2 _ D.TIz).trans (hk _ _ D.TIz D.TITO D.TIi1 D.TIi2 D.TIi3 hTI)
    · exact (sb.2 _ D.TOz).trans TO'
    · exact s1'.1.at fun o q => (sb.2 _ (Ne.symm D.zi1)).trans q
    · exact s2'.1.at fun o q => (sb.2 _ (Ne.symm D.zi2)).trans q
    · exact s3'.1.at fun o q => (sb.2 _ (Ne.symm D.zi3)).trans q
    · have hlt : c < s.heap.objs.size := by
        have e' : c = z ∨ c = TI ∨ c = TO ∨ c = i1 ∨ c = i2 ∨ c = i3 := by simpa using hcm
        rcases e' with q | q | q | q | q | q
        · rw [q]; exact hzl
        · rw [q]; exact Heap.lt_size hTI
        · rw [q]; exact Heap.lt_size hTO
        · rw [q]; obtain ⟨_, e1, _⟩ := h1; exact Heap.lt_size e1
        · rw [q]; obtain ⟨_, e2, _⟩ := h2; exact Heap.lt_size e2
        · rw [q]; obtain ⟨_, e2, _⟩ := h3; exact Heap.lt_size e2
      rw [upd_ne (Nat.ne_of_lt hlt)]
      exact (hf c hcm).1
  done := by
    intro X hP hw hK hc i pins s σ H E I hf st hg
    subst hP hw hK
    obtain ⟨hz, hTI, ⟨x0, y0, u0, hTO⟩, h1, h2, h3⟩ := st
    obtain ⟨xs, ys, zs, hqx, hqy, hqz, l1, l2, l3⟩ := hg
    obtain ⟨its, rv, p, _⟩ := I.tuple hqx
    obtain ⟨its2, rv2, p2, _⟩ := I.tuple hqy
    obtain ⟨its3, rv3, p3, _⟩ := I.tuple hqz
    have hh : X.A.in1.handled = none := I.ok.hd hc
    have m1 : its.toArray.size = i := by rw [List.size_toArray, ← rv.length]; exact l1
    have m2 : its2.toArray.size = i := by rw [List.size_toArray, ← rv2.length]; exact l2
    have m3 : its3.toArray.size = i := by rw [List.size_toArray, ← rv3.length]; exact l3
    refine wpAny_pyNext_zipD3_end D (Draws.tuple (prog := X.prog) (w := X.w) hh i1 a na its.toArray) (Draws.tuple (prog := X.prog) (w := X.w) hh i2 b nb its2.toArray) (Draws.tuple (prog := X.prog) (w := X.w) hh i3 e ne its3.toArray) hz hTI hTO ⟨h1, p⟩ ⟨h2, p2⟩ ⟨h3, p3⟩ (by omega) (by omega) (by omega) (.inl m1.symm) fun h' tk hk => ⟨rfl, ?_⟩
    exact I.turnedL (t' := tk) (ch := [z, TI, TO, i1, i2, i3]) (fun c o hb q =>
      hk c o (fun q' => hb (by simp [q'])) (fun q' => hb (by simp [q'])) (fun q' => hb (by simp [q'])) (fun q' => hb (by simp [q'])) (fun q' => hb (by simp [q'])) q) hf
  self := fun A i s Q E st h => wpAny_pyIter_zip st.1 h
def iZip3 (K : PySem.W.Frag) (ta : TA) : TI := fun σ H R => ta σ H fun vs H1 => ∃ a b e xs ys zs, vs = [.ref a, .ref b, .ref e] ∧ SqT K H1 a xs ∧ SqT K H1 b ys ∧ SqT K H1 e zs ∧ R (Itz3 K a b e) H1
theorem pi_zip3 {X : Cx} {e1 e2 e3 : Expr} {ta : TA} {p pos tpos : Pos} {elts : List Expr} {kk : Nat} (hg : Gl X "zip") (hm : X.mg "zip" = none) (ha : PA X [e1, e2, e3] ta)
    (hs : starEach [e1, e2, e3] X.env = (false, eval e1 X.env) :: starEach [e2, e3] X.env := by rfl) (hpl : (backTo pos (starEach [e2, e3] X.env)).any (·.1) = false := by rfl) :
    PI X (.Tuple elts kk tpos) (.Call (.Name "zip" p) [e1, e2, e3] [] pos) (iZip3 X.K ta) := by
  refine ⟨fun pins s σ H R I h => ?_⟩
  refine Call_ (ld_blt I hg hm PyProof.Rows.boot_zip (PyProof.Rows.callWith_type1 (thn (ha.run pos pins s σ H _ I h) fun us s1 ⟨vs, H1, I1, r1, q1⟩ => ?_) hs hpl))
  obtain ⟨a, b, e, xs, ys, zs, ex, hqx, hqy, hqz, q⟩ := q1
  subst ex
  cases r1 with
  | cons r rr =>
    cases rr with
    | cons r' rr =>
      cases rr with
      | cons r'' rr =>
        cases rr
        cases r
        cases r'
        cases r''
        obtain ⟨its, rv, p1, _⟩ := I1.tuple hqx
        obtain ⟨its2, rv2, p2, _⟩ := I1.tuple hqy
        obtain ⟨its3, rv3, p3, _⟩ := I1.tuple hqz
        have la : a < s1.heap.objs.size := by obtain ⟨_, q, _⟩ := p1; exact Heap.lt_size q
        have lb : b < s1.heap.objs.size := by obtain ⟨_, q, _⟩ := p2; exact Heap.lt_size q
        have le : e < s1.heap.objs.size := by obtain ⟨_, q, _⟩ := p3; exact Heap.lt_size q
        refine zip_begins3 (begins_tuple a its.toArray) (begins_tuple b its2.toArray) (begins_tuple e its3.toArray) p1 p2 p3 fun h' hz hTI hTO h1 h2 h3 hsz hk => wpAny_pyIter_zip hz ?_
        have I2 : Inv X pins σ H1 { s1 with heap := h' } := I1.kept (t' := s1.toks) hk
        refine ⟨s1.heap.objs.size + 5, [s1.heap.objs.size + 5, s1.heap.objs.size + 3, s1.heap.objs.size + 4, s1.heap.objs.size, s1.heap.objs.size + 1, s1.heap.objs.size + 2], _, _, H1, rfl, I2,
          turn_zip3 (zip_sep3 (N := s1.heap.objs.size) (by simpa using la) (by simpa using lb) (by simpa using le)) (Nat.ne_of_lt la) (Nat.ne_of_lt (Nat.lt_succ_of_lt lb)) (Nat.ne_of_lt (Nat.lt_succ_of_lt (Nat.lt_succ_of_lt le))), ⟨hz, hTI, ⟨_, _, _, hTO⟩, ⟨_, h1, rfl, rfl⟩, ⟨_, h2, rfl, rfl⟩, ⟨_, h3, rfl, rfl⟩⟩, fun c hcm => ?_, q⟩
        have e' : c = s1.heap.objs.size + 5 ∨ c = s1.heap.objs.size + 3 ∨ c = s1.heap.objs.size + 4 ∨ c = s1.heap.objs.size ∨ c = s1.heap.objs.size + 1 ∨ c = s1.heap.objs.size + 2 := by simpa using hcm
        have hle : s1.heap.objs.size ≤ c := by
          rcases e' with z | z | z | z | z | z
          · rw [z]; exact Nat.le_add_right _ _
          · rw [z]; exact Nat.le_add_right _ _
          · rw [z]; exact Nat.le_add_right _ _
          · rw [z]; exact Nat.le_refl _
          · rw [z]; exact Nat.le_add_right _ _
          · rw [z]; exact Nat.le_add_right _ _
        exact I1.fpOk hle (I1.hok.fresh hle)
/-- what a turn of three brings -/
theorem walk_zip3 {K : PySem.W.Frag} {a b e : Addr} {xs ys zs : List V} (l2 : ys.length = xs.length) (l3 : zs.length = xs.length) : Walk (Itz3 K a b e) xs.length (fun H => SqT K H a xs ∧ SqT K H b ys ∧ SqT K H e zs)
    (fun i H v H' => ∃ T x y u, v = .ref T ∧ H T = none ∧ H' = upd H T (.tup [x, y, u]) ∧ xs[i]? = some x ∧ ys[i]? = some y ∧ zs[i]? = some u) := by
  refine ⟨fun i _ hi q => ?_, fun _ q => ⟨xs, ys, zs, q.1, q.2.1, q.2.2, rfl, l2, l3⟩, fun i H v H' _ q y => ?_⟩
  · exact ⟨xs, ys, zs, xs[i], ys[i], zs[i], q.1, q.2.1, q.2.2, by simp [hi], by simp [l2, hi], by simp [l3, hi]⟩
  · obtain ⟨T, x, y, u, h1, h2, h3, h4, h5, h6⟩ := y
    exact ⟨T, x, y, u, h1, h2, h3, h4 xs q.1, h5 ys q.2.1, h6 zs q.2.2⟩
/-! the least of a tuple of ints -/
def rMinT (K : PySem.W.Frag) : List V → Hp → VK → Prop := fun vs H Q => ∃ (a : Addr) (k : Int) (ks : List Int), vs = [V.ref a] ∧ SqT K H a ((k :: ks).map V.int) ∧ Q (.int (ks.foldl min k)) H
theorem cr_minT {X : Cx} (hc : X.calm = true) (hu : X.A.units + 64 < cLine) : CallR X (.builtin "min") (rMinT X.K) := by
  intro pins s σ H vs us Q I r h
  obtain ⟨a, k, ks, rfl, hs, q⟩ := h
  obtain ⟨u, rfl, ru⟩ := vals1 r
  obtain rfl : u = Value.ref a := ru
  obtain ⟨its, rv, p, _⟩ := I.tuple hs
  obtain ⟨as, hr⟩ := Dp.readsAll I ((k :: ks).map PyData.int) ((k :: ks).map V.int) its (dp_ints _) rv
  have hd := depth_ints (k :: ks)
  refine PySem.W.min_tuple_data (x := PyData.int k) (xs := ks.map PyData.int) (I.ok.hd hc) p (by simpa using hr) (alike_ints (k :: ks)) (by
    have : PyData.depthAll (PyData.int k :: ks.map PyData.int) ≤ 1 := hd
    omega) fun i v h' tk bs hv hrd hk => ?_
  rw [PySem.W.minD_ints] at hrd
  rw [List.getElem?_toArray] at hv
  obtain ⟨x, hx, rx⟩ := prd_at2 rv hv
  obtain ⟨j, _, rfl⟩ := map_at hx
  obtain ⟨t, rfl⟩ := rx
  have e := (hrd.unique _ _ (Reads.int j t)).1
  cases e
  exact ⟨.int _, H, I.kept (t' := tk) hk, ⟨t, rfl⟩, q⟩
theorem foldl_min_le : ∀ (ks : List Int) (k : Int), ks.foldl min k ≤ k ∧ ∀ x ∈ ks, ks.foldl min k ≤ x
  | [], k => ⟨Int.le_refl _, by simp⟩
  | y :: r, k => by
    obtain ⟨h1, h2⟩ := foldl_min_le r (min k y)
    rw [List.foldl_cons]
    refine ⟨by omega, fun x hx => ?_⟩
    rcases List.mem_cons.mp hx with e | e
    · subst e; omega
    · exact h2 x e
end Toy

namespace Toy
open PySem PySem.Spec PyProof.Rows L2
/-! offsets: plain mathematics -/
structure Met (n : Nat) (ws : List (List Int)) : Prop where
  nn : ∀ i j, i < n → j < n → 0 ≤ mat ws i j
  z : ∀ i, i < n → mat ws i i = 0
  tri : ∀ i j k, i < n → j < n → k < n → mat ws i k ≤ mat ws i j + mat ws j k
theorem Least.met {n : Nat} {R : Nat → Nat → Int} {ws : List (List Int)} (L : Least n R (mat ws)) (h : ∀ i j, i < n → j < n → 0 ≤ R i j) : Met n ws := by
  refine ⟨fun i j hi hj => ?_, fun i hi => ?_, fun i j k hi hj hk => ?_⟩
  · obtain ⟨l, w, e⟩ := L.has i j hi hj
    rw [← e]; exact rc_nn h l w.lt
  · have h1 := L.le i i [i] hi hi ⟨rfl, rfl, by simpa using hi⟩
    obtain ⟨l, w, e⟩ := L.has i i hi hi
    have h2 := rc_nn h l w.lt
    have h3 : rc R [i] = 0 := rfl
    omega
  · obtain ⟨l, w, e⟩ := L.has i j hi hj
    obtain ⟨l', w', e'⟩ := L.has j k hj hk
    obtain ⟨m, wm, em⟩ := way_cat (R := R) w w'
    have := L.le i k m hi hk wm
    omega
theorem SysOk.met {S : Sys} (ok : SysOk S) : Met S.n.toNat S.ws := ok.wy.least.met ok.sq.nn
/-- what is served, with the prices so far -/
def svF (off : List Int) (row : List (Option Int)) (a : Nat) : Option (Int × Nat) := match row.getD a none with
  | some k => some (off.getD a 0 + k, a)
  | none => none
def srv (n : Nat) (off : List Int) (row : List (Option Int)) : List (Int × Nat) := (List.range n).filterMap (svF off row)
theorem svF_some {off : List Int} {row : List (Option Int)} {a : Nat} {k : Int} (h : row.getD a none = some k) : svF off row a = some (off.getD a 0 + k, a) := by unfold svF; rw [h]
theorem svF_none {off : List Int} {row : List (Option Int)} {a : Nat} (h : row.getD a none = none) : svF off row a = none := by unfold svF; rw [h]
theorem srv_mem {n : Nat} {off : List Int} {row : List (Option Int)} {q : Int × Nat} : q ∈ srv n off row ↔ ∃ a k, a < n ∧ row.getD a none = some k ∧ q = (off.getD a 0 + k, a) := by
  unfold srv
  rw [List.mem_filterMap]
  constructor
  · rintro ⟨a, ha, e⟩
    cases hc : row.getD a none with
    | none => rw [svF_none hc] at e; cases e
    | some k => rw [svF_some hc] at e; exact ⟨a, k, List.mem_range.mp ha, hc, (Option.some.inj e).symm⟩
  · rintro ⟨a, k, ha, hk, rfl⟩
    exact ⟨a, List.mem_range.mpr ha, svF_some hk⟩
def rawAt (ws : List (List Int)) (sv : List (Int × Nat)) (b : Nat) : Int := minL (sv.map fun q => q.1 + mat ws q.2 b)
def rawL (n : Nat) (ws : List (List Int)) (sv : List (Int × Nat)) : List Int := (List.range n).map (rawAt ws sv)
theorem rawL_len {n : Nat} {ws : List (List Int)} {sv : List (Int × Nat)} : (rawL n ws sv).length = n := by unfold rawL; rw [List.length_map, List.length_range]
theorem rawL_at {n : Nat} {ws : List (List Int)} {sv : List (Int × Nat)} {b : Nat} (h : b < n) : (rawL n ws sv).getD b 0 = rawAt ws sv b := by
  unfold rawL
  rw [List.getD_eq_getElem?_getD, List.getElem?_map, List.getElem?_range h]
  rfl
theorem raw_le {ws : List (List Int)} {sv : List (Int × Nat)} {b : Nat} {q : Int × Nat} (h : q ∈ sv) : rawAt ws sv b ≤ q.1 + mat ws q.2 b := minL_le (List.mem_map.mpr ⟨q, h, rfl⟩)
theorem raw_has {ws : List (List Int)} {sv : List (Int × Nat)} {b : Nat} (h : sv ≠ []) : ∃ q ∈ sv, rawAt ws sv b = q.1 + mat ws q.2 b := by
  have hne : sv.map (fun q => q.1 + mat ws q.2 b) ≠ [] := by
    intro e
    exact h (List.map_eq_nil_iff.mp e)
  obtain ⟨q, hq, e⟩ := List.mem_map.mp (minL_mem hne)
  exact ⟨q, hq, e.symm⟩
def newOff (r : List Int) : List Int := r.map fun c => c - minL r
/-- right offsets -/
structure OffOk (n : Nat) (ws : List (List Int)) (off : List Int) : Prop where
  len : off.length = n
  nn : ∀ b, b < n → 0 ≤ off.getD b 0
  zero : ∃ b, b < n ∧ off.getD b 0 = 0
  tri : ∀ a b, a < n → b < n → off.getD b 0 ≤ off.getD a 0 + mat ws a b
/-- offsets of a row, and the sum of its rises -/
structure Offs (n : Nat) (ws : List (List Int)) (rs : List (List (Option Int))) (off : List Int) (tot : Int) : Prop where
  lo : ∀ ps c a b, Run n ws rs ps c a → b < n → off.getD b 0 + tot ≤ c + mat ws a b
  at_ : ∀ b, b < n → ∃ ps c a, Run n ws rs ps c a ∧ off.getD b 0 + tot = c + mat ws a b
theorem Offs.first {n : Nat} {ws : List (List Int)} {off : List Int} (e : ∀ b, b < n → off.getD b 0 = mat ws 0 b) : Offs n ws [] off 0 := by
  refine ⟨fun ps c a b h hb => ?_, fun b hb => ⟨[], 0, 0, .nil, by rw [e b hb]; omega⟩⟩
  have hl : ps = [] := List.eq_nil_of_length_eq_zero (by have := h.len; simpa using this)
  subst hl
  obtain ⟨e1, e2⟩ := (Run.nil (n := n) (ws := ws)).fn h
  subst e1; subst e2
  rw [e b hb]; omega
theorem OffOk.first {n : Nat} {ws : List (List Int)} {off : List Int} (M : Met n ws) (hn : 0 < n) (hl : off.length = n) (e : ∀ b, b < n → off.getD b 0 = mat ws 0 b) : OffOk n ws off := by
  refine ⟨hl, fun b hb => by rw [e b hb]; exact M.nn _ _ hn hb, ⟨0, hn, by rw [e 0 hn]; exact M.z 0 hn⟩, fun a b ha hb => ?_⟩
  rw [e a ha, e b hb]
  exact M.tri _ _ _ hn ha hb
section
variable {n : Nat} {ws : List (List Int)} {off : List Int} {row : List (Option Int)}
theorem srv_ne (hlen : row.length = n) (hs : ∃ x : Int, some x ∈ row) : srv n off row ≠ [] := by
  obtain ⟨x, hx⟩ := hs
  obtain ⟨p, hp⟩ := List.mem_iff_getElem?.mp hx
  have hl := (List.getElem?_eq_some_iff.mp hp).1
  exact List.ne_nil_of_mem (srv_mem.mpr ⟨p, x, by omega, by rw [List.getD_eq_getElem?_getD, hp]; rfl, rfl⟩)
theorem newOff_at {r : List Int} {b : Nat} (h : b < r.length) : (newOff r).getD b 0 = r.getD b 0 - minL r := by
  unfold newOff
  rw [List.getD_eq_getElem?_getD, List.getElem?_map, List.getD_eq_getElem?_getD, List.getElem?_eq_getElem h]
  rfl
theorem min_at {r : List Int} (h : 0 < r.length) : (∃ b, b < r.length ∧ r.getD b 0 = minL r) ∧ ∀ b, b < r.length → minL r ≤ r.getD b 0 := by
  have hne : r ≠ [] := by intro e; subst e; simp at h
  constructor
  · obtain ⟨b, hb, e⟩ := List.getElem_of_mem (minL_mem hne)
    exact ⟨b, hb, by rw [List.getD_eq_getElem?_getD, List.getElem?_eq_getElem hb]; exact e⟩
  · intro b hb
    rw [List.getD_eq_getElem?_getD, List.getElem?_eq_getElem hb]
    exact minL_le (List.getElem_mem hb)
theorem OffOk.step (M : Met n ws) (hn : 0 < n) (hlen : row.length = n) (hs : ∃ x : Int, some x ∈ row) : OffOk n ws (newOff (rawL n ws (srv n off row))) := by
  have hr : (rawL n ws (srv n off row)).length = n := rawL_len
  obtain ⟨⟨b0, hb0, e0⟩, hmin⟩ := min_at (r := rawL n ws (srv n off row)) (by omega)
  have hne := srv_ne (off := off) hlen hs
  refine ⟨by unfold newOff; rw [List.length_map]; exact hr, fun b hb => ?_, ⟨b0, by omega, ?_⟩, fun a b ha hb => ?_⟩
  · rw [newOff_at (by omega)]
    have := hmin b (by omega)
    omega
  · rw [newOff_at hb0]; omega
  · rw [newOff_at (by omega), newOff_at (by omega), rawL_at ha, rawL_at hb]
    obtain ⟨q, hq, e⟩ := raw_has (ws := ws) (b := a) hne
    obtain ⟨p, k, hp, _, rfl⟩ := srv_mem.mp hq
    have h1 := raw_le (ws := ws) (b := b) hq
    have h2 := M.tri p a b hp ha hb
    simp only at e h1
    omega
theorem rise_ge (O : OffOk n ws off) (M : Met n ws) (hn : 0 < n) (hlen : row.length = n) (hs : ∃ x : Int, some x ∈ row) : ∃ x : Int, some x ∈ row ∧ x ≤ minL (rawL n ws (srv n off row)) := by
  have hr : (rawL n ws (srv n off row)).length = n := rawL_len
  obtain ⟨⟨b, hb, e⟩, _⟩ := min_at (r := rawL n ws (srv n off row)) (by omega)
  rw [rawL_at (by omega)] at e
  obtain ⟨q, hq, e2⟩ := raw_has (ws := ws) (b := b) (srv_ne (off := off) hlen hs)
  obtain ⟨p, k, hp, hk, rfl⟩ := srv_mem.mp hq
  have h1 := O.nn p hp
  have h2 := M.nn p b hp (by omega)
  refine ⟨k, ?_, by simp only at e2; omega⟩
  rw [List.getD_eq_getElem?_getD] at hk
  cases hc : row[p]? with
  | none => rw [hc] at hk; cases hk
  | some o =>
    rw [hc] at hk
    have hk2 : o = some k := hk
    subst hk2
    exact List.mem_of_getElem? hc
theorem Offs.step (hn : 0 < n) (hlen : row.length = n) (hs : ∃ x : Int, some x ∈ row) {rs : List (List (Option Int))} {tot : Int} (O : Offs n ws rs off tot) :
    Offs n ws (rs ++ [row]) (newOff (rawL n ws (srv n off row))) (tot + minL (rawL n ws (srv n off row))) := by
  have hr : (rawL n ws (srv n off row)).length = n := rawL_len
  refine ⟨fun ps c a b h hb => ?_, fun b hb => ?_⟩
  · rw [newOff_at (by omega), rawL_at hb]
    obtain ⟨ps0, c0, a0, k, rfl, h0, ha, hk, rfl⟩ := h.inv
    have h1 := raw_le (ws := ws) (b := b) (srv_mem.mpr ⟨a, k, ha, hk, rfl⟩ : (off.getD a 0 + k, a) ∈ srv n off row)
    have h2 := O.lo _ _ _ a h0 ha
    simp only at h1
    omega
  · rw [newOff_at (by omega), rawL_at hb]
    obtain ⟨q, hq, e⟩ := raw_has (ws := ws) (b := b) (srv_ne (off := off) hlen hs)
    obtain ⟨p, k, hp, hk, rfl⟩ := srv_mem.mp hq
    obtain ⟨ps, c, a, h0, e0⟩ := O.at_ p hp
    refine ⟨ps ++ [p], c + mat ws a p + k, p, .snoc h0 hp hk, ?_⟩
    simp only at e
    omega
/-- the sum of the rises is the wisest price -/
theorem Offs.wise (M : Met n ws) (hn : 0 < n) {rs : List (List (Option Int))} {tot : Int} (O : Offs n ws rs off tot) (K : OffOk n ws off) {ps : List Nat} {c : Int} {a : Nat} (h : Run n ws rs ps c a) (e : c = (val n ws rs).getD 0 0) : c = tot := by
  have ha := h.lt hn
  have h1 := O.lo _ _ _ a h ha
  have h2 := K.nn a ha
  rw [M.z a ha] at h1
  obtain ⟨b, hb, eb⟩ := K.zero
  obtain ⟨ps', c', a', h', e'⟩ := O.at_ b hb
  have h3 := M.nn a' b (h'.lt hn) hb
  have h4 := h'.ge hn
  omega
end
end Toy

namespace Toy
open PySem PySem.Spec PyProof.Rows L2
/-! things of the built-in kinds, whatever they are; all that belongs to them stands at addresses of A -/
inductive Dat (A : Addr → Prop) (H : Hp) : V → Prop
  | non : Dat A H .non
  | bl (b : Bool) : Dat A H (.bl b)
  | int (i : Int) : Dat A H (.int i)
  | str (z : Str) : Dat A H (.str z)
  | lst (a : Addr) (xs : List V) : A a → H a = some (.lst xs) → (∀ x ∈ xs, Dat A H x) → Dat A H (.ref a)
  | tup (a : Addr) (xs : List V) : A a → H a = some (.tup xs) → (∀ x ∈ xs, Dat A H x) → Dat A H (.ref a)
  | dK (a : Addr) (kvs : List (Key × V)) : A a → H a = some (.dK kvs) → (∀ q ∈ kvs, Dat A H q.2) → Dat A H (.ref a)
theorem Dat.mono {A B : Addr → Prop} {H H' : Hp} {v : V} (D : Dat A H v) (hk : ∀ a o, A a → H a = some o → H' a = some o) (hA : ∀ a, A a → (∃ o, H a = some o) → B a) : Dat B H' v := by
  induction D with
  | non => exact .non
  | bl b => exact .bl b
  | int i => exact .int i
  | str z => exact .str z
  | lst a xs h1 h2 _ ih => exact .lst a xs (hA a h1 ⟨_, h2⟩) (hk _ _ h1 h2) ih
  | tup a xs h1 h2 _ ih => exact .tup a xs (hA a h1 ⟨_, h2⟩) (hk _ _ h1 h2) ih
  | dK a kvs h1 h2 _ ih => exact .dK a kvs (hA a h1 ⟨_, h2⟩) (hk _ _ h1 h2) ih
theorem Dat.same {A : Addr → Prop} {H H' : Hp} {v : V} (D : Dat A H v) (k : Same H H') : Dat A H' v := D.mono (fun a o _ h => k a o h) fun _ h _ => h
theorem Dat.keep {d : Addr} {H H' : Hp} {v : V} (D : Dat (fun a => a ≠ d) H v) (k : Keep d H H') : Dat (fun a => a ≠ d) H' v := D.mono (fun a o n h => k a o n h) fun _ h _ => h
theorem Dat.ty {A : Addr → Prop} {H : Hp} {v : V} (D : Dat A H v) : ∃ n, tyN H v = some n := by
  cases D with
  | non => exact ⟨_, rfl⟩
  | bl b => exact ⟨_, rfl⟩
  | int i => exact ⟨_, rfl⟩
  | str z => exact ⟨_, rfl⟩
  | lst a xs h1 h2 _ => exact ⟨"list", by unfold tyN; simp only [h2]⟩
  | tup a xs h1 h2 _ => exact ⟨"tuple", ty_tup h2⟩
  | dK a kvs h1 h2 _ => exact ⟨"dict", ty_dK h2⟩
theorem Dat.item {A : Addr → Prop} {H : Hp} {a : Addr} {xs : List V} {x : V} (D : Dat A H (.ref a)) (h : H a = some (.tup xs) ∨ H a = some (.lst xs)) (m : x ∈ xs) : Dat A H x := by
  cases D with
  | lst a' ys h1 h2 h3 =>
    rcases h with h | h
    · rw [h2] at h; cases h
    · rw [h2] at h; cases h; exact h3 _ m
  | tup a' ys h1 h2 h3 =>
    rcases h with h | h
    · rw [h2] at h; cases h; exact h3 _ m
    · rw [h2] at h; cases h
  | dK a' ys h1 h2 h3 =>
    rcases h with h | h <;> (rw [h2] at h; cases h)
/-- a list or a tuple -/
def SeqAt' (H : Hp) (a : Addr) (ts : List V) : Prop := H a = some (.tup ts) ∨ H a = some (.lst ts)
theorem SeqAt'.same {H H' : Hp} {a : Addr} {ts : List V} (h : SeqAt' H a ts) (k : Same H H') : SeqAt' H' a ts := h.elim (fun q => .inl (k _ _ q)) fun q => .inr (k _ _ q)
theorem SeqAt'.fn {H : Hp} {a : Addr} {ts us : List V} (h : SeqAt' H a ts) (g : SeqAt' H a us) : ts = us := by
  rcases h with h | h <;> rcases g with g | g <;> (rw [h] at g; cases g) <;> rfl
theorem SeqAt'.ix {K : PySem.W.Frag} {H : Hp} {a : Addr} {ts : List V} {i : Int} {x : V} {Q : VK} (h : SeqAt' H a ts) (hx : atI ts i = some x) (q : Q x H) : rIxL K (.ref a) (.int i) H Q ∨ rIxT K (.ref a) (.int i) H Q :=
  h.elim (fun e => .inr ⟨a, ts, i, x, rfl, rfl, SqT.of e, hx, q⟩) fun e => .inl ⟨a, ts, i, x, rfl, rfl, SqL.of e, hx, q⟩
theorem SeqAt'.len {K : PySem.W.Frag} {H : Hp} {a : Addr} {ts : List V} (h : SeqAt' H a ts) : SqL K H a ts ∨ SqT K H a ts := h.elim (fun e => .inr (SqT.of e)) fun e => .inl (SqL.of e)
theorem SeqAt'.ty {H : Hp} {a : Addr} {ts : List V} (h : SeqAt' H a ts) : ∃ n, tyN H (.ref a) = some n ∧ (n == "list" || n == "tuple") = true := by
  rcases h with q | q
  · exact ⟨"tuple", ty_tup q, rfl⟩
  · exact ⟨"list", by unfold tyN; simp only [q], rfl⟩
theorem tyN_seq {H : Hp} {v : V} {n : String} (h : tyN H v = some n) (hn : (n == "list" || n == "tuple") = true) : ∃ a ts, v = .ref a ∧ SeqAt' H a ts := by
  cases v with
  | ref a =>
    unfold tyN at h
    cases e : H a with
    | none => simp only [e] at h; cases h
    | some o =>
      cases o with
      | tup xs => exact ⟨a, xs, rfl, .inl e⟩
      | lst xs => exact ⟨a, xs, rfl, .inr e⟩
      | _ => simp only [e] at h <;> cases h <;> simp at hn
  | _ => cases h <;> simp at hn
/-- lists of flags that tell of the items ahead -/
structure Told (p : Nat → Prop) (j : Nat) (bs : List Bool) : Prop where
  len : bs.length = j
  iff : ∀ i b, bs[i]? = some b → (b = true ↔ p i)
theorem Told.nil {p : Nat → Prop} : Told p 0 [] := ⟨rfl, fun i b h => by simp at h⟩
theorem Told.snoc {p : Nat → Prop} {j : Nat} {bs : List Bool} {b : Bool} (t : Told p j bs) (h : b = true ↔ p j) : Told p (j + 1) (bs ++ [b]) := by
  refine ⟨by rw [List.length_append, t.len]; rfl, fun i c hc => ?_⟩
  by_cases hi : i < bs.length
  · rw [List.getElem?_append_left hi] at hc; exact t.iff i c hc
  · rw [List.getElem?_append_right (by omega)] at hc
    have hz : i - bs.length = 0 := by
      have := (List.getElem?_eq_some_iff.mp hc).1
      simp at this; omega
    rw [hz] at hc
    have : c = b := by simpa using hc.symm
    subst this
    rw [show i = j by have := t.len; omega]; exact h
theorem Told.all {p : Nat → Prop} {j : Nat} {bs : List Bool} (t : Told p j bs) : bs.all id = true ↔ ∀ i, i < j → p i := by
  rw [List.all_eq_true]
  constructor
  · intro h i hi
    have hb : bs[i]? = some (bs[i]'(by rw [t.len]; exact hi)) := List.getElem?_eq_getElem _
    exact (t.iff i _ hb).mp (h _ (List.mem_of_getElem? hb))
  · intro h b hb
    obtain ⟨i, hi⟩ := List.getElem?_of_mem hb
    exact (t.iff i b hi).mpr (h i (by have := (List.getElem?_eq_some_iff.mp hi).1; have := t.len; omega))
theorem Told.any {p : Nat → Prop} {j : Nat} {bs : List Bool} (t : Told p j bs) : bs.any id = true ↔ ∃ i, i < j ∧ p i := by
  rw [List.any_eq_true]
  constructor
  · rintro ⟨b, hb, e⟩
    obtain ⟨i, hi⟩ := List.getElem?_of_mem hb
    exact ⟨i, by have := (List.getElem?_eq_some_iff.mp hi).1; have := t.len; omega, (t.iff i b hi).mp e⟩
  · rintro ⟨i, hi, h⟩
    have hb : bs[i]? = some (bs[i]'(by rw [t.len]; exact hi)) := List.getElem?_eq_getElem _
    exact ⟨_, List.mem_of_getElem? hb, (t.iff i _ hb).mpr h⟩
theorem bl_snoc (bs : List Bool) (b : Bool) : bs.map V.bl ++ [V.bl b] = (bs ++ [b]).map V.bl := by rw [List.map_append]; rfl
/-! a tuple of so many ints -/
def IsInts (H : Hp) (v : V) (m : Int) : Prop := ∃ ks, IntT H v ks ∧ (ks.length : Int) = m
theorem IsInts.same {H H' : Hp} {v : V} {m : Int} (h : IsInts H v m) (k : Same H H') : IsInts H' v m := by
  obtain ⟨ks, h1, h2⟩ := h
  exact ⟨ks, IntT.firm _ _ _ _ (same_tups k) h1, h2⟩
theorem isInts_of {H : Hp} {v : V} {m : Int} {xs : List V} {a : Addr} (e : v = .ref a) (h : H a = some (.tup xs)) : IsInts H v m ↔ ((xs.length : Int) = m ∧ ∀ i, i < xs.length → isI (xs.getD i .non) = true) := by
  subst e
  constructor
  · rintro ⟨ks, ⟨a', e, h'⟩, hl⟩
    cases e
    rw [h] at h'
    cases h'
    refine ⟨by rw [List.length_map]; exact hl, fun i hi => ?_⟩
    rw [List.length_map] at hi
    rw [List.getD_eq_getElem?_getD, List.getElem?_map, List.getElem?_eq_getElem hi]
    rfl
  · rintro ⟨h1, h2⟩
    have : ∀ xs : List V, (∀ i, i < xs.length → isI (xs.getD i .non) = true) → ∃ ks : List Int, xs = ks.map V.int := by
      intro xs
      induction xs with
      | nil => exact fun _ => ⟨[], rfl⟩
      | cons x t ih =>
        intro hx
        obtain ⟨ks, rfl⟩ := ih fun i hi => by
          have := hx (i + 1) (by rw [List.length_cons]; omega)
          simpa using this
        have h0 := hx 0 (by simp)
        cases x with
        | int i => exact ⟨i :: ks, rfl⟩
        | _ => simp [isI] at h0
    obtain ⟨ks, rfl⟩ := this xs h2
    exact ⟨ks, ⟨a, rfl, h⟩, by rw [← h1, List.length_map]⟩
theorem isInts_no {H : Hp} {v : V} {m : Int} (h : isTup H m v = false) : ¬ IsInts H v m := by
  rintro ⟨ks, ⟨a, rfl, h'⟩, hl⟩
  rw [tup_isTup h' (by rw [List.length_map]; exact hl)] at h
  cases h
theorem isTup_yes {H : Hp} {v : V} {m : Int} (h : isTup H m v = true) : ∃ a xs, v = .ref a ∧ H a = some (.tup xs) ∧ (xs.length : Int) = m := by
  cases v with
  | ref a =>
    unfold isTup at h
    cases e : H a with
    | none => simp only [e] at h; cases h
    | some o =>
      cases o with
      | tup xs => simp only [e] at h; exact ⟨a, xs, rfl, e, of_decide_eq_true h⟩
      | _ => simp only [e] at h; cases h
  | _ => cases h
theorem foldl_max_le : ∀ (ks : List Int) (k m : Int), ks.foldl max k ≤ m ↔ k ≤ m ∧ ∀ x ∈ ks, x ≤ m
  | [], k, m => by simp
  | x :: t, k, m => by
    rw [List.foldl_cons, foldl_max_le t (max k x) m]
    simp only [List.mem_cons, forall_eq_or_imp, Int.max_le]
    exact ⟨fun ⟨⟨a, b⟩, c⟩ => ⟨a, b, c⟩, fun ⟨a, b, c⟩ => ⟨⟨a, b⟩, c⟩⟩
theorem getD_at {α : Type} {xs : List α} {i : Nat} {x d : α} (h : xs[i]? = some x) : xs.getD i d = x := by rw [List.getD_eq_getElem?_getD, h]; rfl
theorem le_not {a b : Int} (h : ¬ a < b) : b ≤ a := by omega
/-! floors of rows -/
structure FlOk (n : Nat) (ws : List (List Int)) (rs : List (List (Option Int))) (hs : List (List Int)) : Prop where
  last : ∀ a, a < n → (hs.getD rs.length []).getD a 0 ≤ 0
  step : ∀ k row, rs[k]? = some row → ∀ a b p, a < n → b < n → row.getD b none = some p → (hs.getD k []).getD a 0 ≤ mat ws a b + p + (hs.getD (k + 1) []).getD b 0
def FloorIs (n : Int) (ws : List (List Int)) (rs : List (List (Option Int))) (H : Hp) (v : V) : Prop :=
  ∃ a ts hs, v = .ref a ∧ SeqAt' H a ts ∧ ts.length = rs.length + 1 ∧ Paired (fun z ks => IntT H z ks ∧ (ks.length : Int) = n) ts hs ∧ FlOk n.toNat ws rs hs
def headOf (H : Hp) (v : V) (x : Int) : Prop := ∃ (a : Addr) (ts : List V) (b : Addr) (ks : List Int), v = .ref a ∧ SeqAt' H a ts ∧ ts[0]? = some (.ref b) ∧ H b = some (.tup (ks.map V.int)) ∧ ks.getD 0 0 = x
theorem headOf.fn {H : Hp} {v : V} {x y : Int} (h : headOf H v x) (g : headOf H v y) : x = y := by
  obtain ⟨a, ts, b, ks, rfl, h2, h3, h4, rfl⟩ := h
  obtain ⟨a', ts', b', ks', e, g2, g3, g4, rfl⟩ := g
  cases e
  obtain rfl := h2.fn g2
  rw [h3] at g3; cases g3
  rw [h4] at g4
  have : ks.map V.int = ks'.map V.int := by injection g4 with g4; injection g4
  have : ks = ks' := by
    have inj : ∀ xs ys : List Int, xs.map V.int = ys.map V.int → xs = ys := by
      intro xs
      induction xs with
      | nil => intro ys h; cases ys with | nil => rfl | cons y t => cases h
      | cons x t ih =>
        intro ys h
        cases ys with
        | nil => cases h
        | cons y u =>
          rw [List.map_cons, List.map_cons] at h
          injection h with h1 h2
          injection h1 with h1
          rw [h1, ih u h2]
    exact inj _ _ this
  rw [this]
theorem paired_ints {H : Hp} {n : Int} : ∀ {ts : List V}, (∀ i, i < ts.length → IsInts H (ts.getD i .non) n) → ∃ hs, Paired (fun z ks => IntT H z ks ∧ (ks.length : Int) = n) ts hs
  | [], _ => ⟨[], .nil⟩
  | z :: t, h => by
    obtain ⟨hs, hp⟩ := paired_ints (H := H) (n := n) (ts := t) fun i hi => by
      have := h (i + 1) (by rw [List.length_cons]; omega)
      simpa using this
    obtain ⟨ks, h1, h2⟩ := h 0 (by simp)
    exact ⟨ks :: hs, .cons ⟨by simpa using h1, h2⟩ hp⟩
theorem ceil_iff {n : Nat} {ws : List (List Int)} {row : List (Option Int)} {ah ks : List Int} (hne : ∀ a, chs n ws row ah a ≠ []) : (∀ a, a < n → ks.getD a 0 ≤ (ceil n ws row ah).getD a 0) ↔ ∀ a b p, a < n → b < n → row.getD b none = some p → ks.getD a 0 ≤ mat ws a b + p + ah.getD b 0 := by
  constructor
  · intro h a b p ha hb hp
    exact Int.le_trans (h a ha) (ceil_le ha hb hp)
  · intro h a ha
    rw [ceil_at ha]
    have hm := minL_mem (l := (chs n ws row ah a).map (·.1)) (by intro e; exact hne a (List.map_eq_nil_iff.mp e))
    obtain ⟨⟨x, y⟩, hq, hx⟩ := List.mem_map.mp hm
    obtain ⟨pp, k, hpp, hk, e⟩ := chs_mem.mp hq
    cases e
    have hx : mat ws a pp + k + ah.getD pp 0 = _ := hx
    rw [← hx]
    exact h a pp k ha hpp hk
/-! things as data -/
inductive DatP (A : Addr → Prop) (H : Hp) : V → PyData → Prop
  | non : DatP A H .non .none
  | bl (b : Bool) : DatP A H (.bl b) (.bool b)
  | int (i : Int) : DatP A H (.int i) (.int i)
  | str (z : Str) : DatP A H (.str z) (.str z)
  | lst (a : Addr) (xs : List V) (ds : List PyData) : A a → H a = some (.lst xs) → xs.length = ds.length → (∀ (i : Nat) x d, xs[i]? = some x → ds[i]? = some d → DatP A H x d) → DatP A H (.ref a) (.list ds)
  | tup (a : Addr) (xs : List V) (ds : List PyData) : A a → H a = some (.tup xs) → xs.length = ds.length → (∀ (i : Nat) x d, xs[i]? = some x → ds[i]? = some d → DatP A H x d) → DatP A H (.ref a) (.tuple ds)
theorem DatP.mono {A B : Addr → Prop} {H H' : Hp} {v : V} {d : PyData} (D : DatP A H v d) (hk : ∀ a o, A a → H a = some o → H' a = some o) (hA : ∀ a, A a → (∃ o, H a = some o) → B a) : DatP B H' v d := by
  induction D with
  | non => exact .non
  | bl b => exact .bl b
  | int i => exact .int i
  | str z => exact .str z
  | lst a xs ds h1 h2 h3 _ ih => exact .lst a xs ds (hA a h1 ⟨_, h2⟩) (hk _ _ h1 h2) h3 ih
  | tup a xs ds h1 h2 h3 _ ih => exact .tup a xs ds (hA a h1 ⟨_, h2⟩) (hk _ _ h1 h2) h3 ih
theorem DatP.same {A : Addr → Prop} {H H' : Hp} {v : V} {d : PyData} (D : DatP A H v d) (k : Same H H') : DatP A H' v d := D.mono (fun a o _ h => k a o h) fun _ h _ => h
theorem dpAll_of {K : PySem.W.Frag} {H : Hp} : ∀ {xs : List V} {ds : List PyData}, xs.length = ds.length → (∀ (i : Nat) x d, xs[i]? = some x → ds[i]? = some d → Dp K H x d) → DpAll K H xs ds
  | [], [], _, _ => .nil
  | [], _ :: _, h, _ => by simp at h
  | _ :: _, [], h, _ => by simp at h
  | x :: xs, d :: ds, h, f => .cons (f 0 x d rfl rfl) (dpAll_of (by simpa using h) fun i y e h1 h2 => f (i + 1) y e (by simpa using h1) (by simpa using h2))
theorem DatP.dp {K : PySem.W.Frag} {A : Addr → Prop} {H : Hp} {v : V} {d : PyData} (D : DatP A H v d) : Dp K H v d := by
  induction D with
  | non => exact .non
  | bl b => exact .bl b
  | int i => exact .int i
  | str z => exact .str z
  | lst a xs ds h1 h2 h3 _ ih => exact .lst (SqL.of h2) (dpAll_of h3 ih)
  | tup a xs ds h1 h2 h3 _ ih => exact .tup (SqT.of h2) (dpAll_of h3 ih)
theorem DatP.dat {A : Addr → Prop} {H : Hp} {v : V} {d : PyData} (D : DatP A H v d) : Dat A H v := by
  induction D with
  | non => exact .non
  | bl b => exact .bl b
  | int i => exact .int i
  | str z => exact .str z
  | lst a xs ds h1 h2 h3 _ ih =>
    refine .lst a xs h1 h2 fun x hx => ?_
    obtain ⟨i, hi⟩ := List.getElem?_of_mem hx
    have hl := (List.getElem?_eq_some_iff.mp hi).1
    exact ih i x _ hi (List.getElem?_eq_getElem (by omega))
  | tup a xs ds h1 h2 h3 _ ih =>
    refine .tup a xs h1 h2 fun x hx => ?_
    obtain ⟨i, hi⟩ := List.getElem?_of_mem hx
    have hl := (List.getElem?_eq_some_iff.mp hi).1
    exact ih i x _ hi (List.getElem?_eq_getElem (by omega))
theorem datP_one {A : Addr → Prop} {H : Hp} {a : Addr} {x : V} {d : PyData} (hA : A a) (h : H a = some (.lst [x])) (hx : DatP A H x d) : DatP A H (.ref a) (.list [d]) :=
  .lst a _ _ hA h rfl fun i y e h1 h2 => by
    match i with
    | 0 => cases h1; cases h2; exact hx
    | i + 1 => simp at h1
theorem datP_oneT {A : Addr → Prop} {H : Hp} {a : Addr} {x : V} {d : PyData} (hA : A a) (h : H a = some (.tup [x])) (hx : DatP A H x d) : DatP A H (.ref a) (.tuple [d]) :=
  .tup a _ _ hA h rfl fun i y e h1 h2 => by
    match i with
    | 0 => cases h1; cases h2; exact hx
    | i + 1 => simp at h1
/-- a thing that can be compared with itself: data without dicts, or a flat dict -/
def OddV (A : Addr → Prop) (H : Hp) (v : V) : Prop := (∃ d, DatP A H v d ∧ SeqAt.shaped d = true) ∨ ∃ (a : Addr) (kvs : List (Key × V)), v = .ref a ∧ A a ∧ H a = some (.dK kvs) ∧ (kvs.map (·.1)).Nodup ∧ ∀ p ∈ kvs, flatB p.2 = true ∧ Dat A H p.2
theorem OddV.mono {A B : Addr → Prop} {H H' : Hp} {v : V} (D : OddV A H v) (hk : ∀ a o, A a → H a = some o → H' a = some o) (hA : ∀ a, A a → (∃ o, H a = some o) → B a) : OddV B H' v := by
  rcases D with ⟨d, h1, h2⟩ | ⟨a, kvs, h1, h2, h3, h4, h5⟩
  · exact .inl ⟨d, h1.mono hk hA, h2⟩
  · exact .inr ⟨a, kvs, h1, hA a h2 ⟨_, h3⟩, hk _ _ h2 h3, h4, fun p hp => ⟨(h5 p hp).1, (h5 p hp).2.mono hk hA⟩⟩
theorem OddV.same {A : Addr → Prop} {H H' : Hp} {v : V} (D : OddV A H v) (k : Same H H') : OddV A H' v := D.mono (fun a o _ h => k a o h) fun _ h _ => h
theorem OddV.keep {d : Addr} {H H' : Hp} {v : V} (D : OddV (fun a => a ≠ d) H v) (k : Keep d H H') : OddV (fun a => a ≠ d) H' v := D.mono (fun a o n h => k a o n h) fun _ h _ => h
theorem OddV.dat {A : Addr → Prop} {H : Hp} {v : V} (D : OddV A H v) : Dat A H v := by
  rcases D with ⟨d, h1, h2⟩ | ⟨a, kvs, rfl, h2, h3, h4, h5⟩
  · exact h1.dat
  · exact .dK a kvs h2 h3 fun q hq => (h5 q hq).2
theorem shaped_int (i : Int) : SeqAt.shaped (.int i) = true := rfl
theorem shaped_bool (i : Bool) : SeqAt.shaped (.bool i) = true := rfl
theorem OddV.int {A : Addr → Prop} {H : Hp} (i : Int) : OddV A H (.int i) := .inl ⟨_, .int i, rfl⟩
theorem OddV.bl {A : Addr → Prop} {H : Hp} (i : Bool) : OddV A H (.bl i) := .inl ⟨_, .bl i, rfl⟩
theorem OddV.non {A : Addr → Prop} {H : Hp} : OddV A H .non := .inl ⟨_, .non, rfl⟩
theorem OddV.str {A : Addr → Prop} {H : Hp} {z : Str} (h : PyData.strOk z = true) : OddV A H (.str z) := .inl ⟨_, .str z, by
  show (PyData.canLay0 (.str z) && decide (PyData.depth (.str z) ≤ 64)) = true
  simp [PyData.canLay0, PyData.depth, h]⟩
end Toy

namespace Toy
/-! least ways by ways that come to no post twice: plain mathematics (ways are told backwards: the head is the end) -/
/-- a way that begins with l (told backwards) and goes on by posts not met yet -/
inductive Ext (n : Nat) : List Nat → List Nat → Prop
  | self (l : List Nat) : Ext n l l
  | step {l m : List Nat} {p : Nat} : p < n → ¬ p ∈ l → Ext n (p :: l) m → Ext n l m
theorem Ext.nodup {n : Nat} {l m : List Nat} (e : Ext n l m) (h : l.Nodup) : m.Nodup := by
  induction e with
  | self l => exact h
  | step hp hn _ ih => exact ih (List.nodup_cons.mpr ⟨hn, h⟩)
theorem Ext.lt {n : Nat} {l m : List Nat} (e : Ext n l m) (h : ∀ x ∈ l, x < n) : ∀ x ∈ m, x < n := by
  induction e with
  | self l => exact h
  | step hp hn _ ih => exact ih fun x hx => (List.mem_cons.mp hx).elim (fun q => by rw [q]; exact hp) (h x)
theorem Ext.last {n : Nat} {l m : List Nat} {i : Nat} (e : Ext n l m) (h : l.getLast? = some i) : m.getLast? = some i := by
  induction e with
  | self l => exact h
  | @step l m p hp hn _ ih =>
    refine ih ?_
    cases l with
    | nil => cases h
    | cons a t => rw [List.getLast?_cons_cons]; exact h
theorem Ext.ne {n : Nat} {l m : List Nat} (e : Ext n l m) (h : l ≠ []) : m ≠ [] := by
  induction e with
  | self l => exact h
  | step hp hn _ ih => exact ih (by simp)
/-- each simple way is met from its first post on -/
theorem ext_suffix {n : Nat} : ∀ (k l : List Nat), (k ++ l).Nodup → (∀ x ∈ k ++ l, x < n) → Ext n l (k ++ l)
  | [], l, _, _ => .self l
  | k :: ks, l, h, hlt => by
    -- the post that comes next is the last one of k :: ks
    have : ∀ (ks l : List Nat), (ks ++ l).Nodup → (∀ x ∈ ks ++ l, x < n) → Ext n l (ks ++ l) := by
      intro ks
      induction hL : ks.length generalizing ks with
      | zero =>
        intro l _ _
        have : ks = [] := List.length_eq_zero_iff.mp hL
        subst this
        exact .self l
      | succ m ih =>
        intro l h hlt
        have hne : ks ≠ [] := by intro e; subst e; cases hL
        have e : ks = ks.dropLast ++ [ks.getLast hne] := (List.dropLast_concat_getLast hne).symm
        have e2 : ks ++ l = ks.dropLast ++ (ks.getLast hne :: l) := by
          conv => lhs; rw [e]
          rw [List.append_assoc]; rfl
        rw [e2] at h hlt ⊢
        have hn : ¬ ks.getLast hne ∈ l := by
          have := (List.nodup_append.mp h).2.1
          exact (List.nodup_cons.mp this).1
        exact .step (hlt _ (by simp)) hn (ih ks.dropLast (by rw [List.length_dropLast]; omega) _ h hlt)
    exact this (k :: ks) l h hlt
theorem simple {n : Nat} {R : Nat → Nat → Int} (h : ∀ i j, i < n → j < n → 0 ≤ R i j) {i j : Nat} : ∀ (k : Nat) (l : List Nat), l.length ≤ k → Way n i j l → ∃ l', Way n i j l' ∧ l'.Nodup ∧ rc R l' ≤ rc R l
  | 0, l, hk, w => by
    cases l with
    | nil => cases w.hd
    | cons a t => simp at hk
  | k + 1, l, hk, w => by
    by_cases nd : l.Nodup
    · exact ⟨l, w, nd, Int.le_refl _⟩
    · obtain ⟨a, x, b, c, rfl⟩ := dup l nd
      have w' : Way n i j (a ++ x :: c) := by
        refine ⟨?_, ?_, fun y hy => w.lt y ?_⟩
        · have := w.hd
          cases a with
          | nil => exact this
          | cons a0 at' => exact this
        · have hl := w.la
          rw [List.getLast?_append] at hl ⊢
          have e : (x :: (b ++ x :: c)).getLast? = (x :: c).getLast? := by
            rw [show x :: (b ++ x :: c) = (x :: b) ++ x :: c from rfl, List.getLast?_append]
            cases hq : (x :: c).getLast? with
            | none => simp at hq
            | some y => rfl
          rw [e] at hl; exact hl
        · rcases List.mem_append.mp hy with q | q
          · exact List.mem_append_left _ q
          · refine List.mem_append_right _ ?_
            rcases List.mem_cons.mp q with q | q
            · rw [q]; exact List.mem_cons_self
            · exact List.mem_cons_of_mem _ (List.mem_append_right _ (List.mem_cons_of_mem _ q))
      have hr : rc R (a ++ x :: c) ≤ rc R (a ++ x :: (b ++ x :: c)) := by
        rw [rc_app R x c a, rc_app R x (b ++ x :: c) a]
        have e : rc R (x :: (b ++ x :: c)) = rc R ((x :: b) ++ x :: c) := rfl
        rw [e, rc_app R x c (x :: b)]
        have := rc_nn h ((x :: b) ++ [x]) (fun y hy => w.lt y (by
          refine List.mem_append_right _ ?_
          rcases List.mem_append.mp hy with q | q
          · rcases List.mem_cons.mp q with q | q
            · rw [q]; exact List.mem_cons_self
            · exact List.mem_cons_of_mem _ (List.mem_append_left _ q)
          · rw [List.mem_singleton.mp q]; exact List.mem_cons_self))
        omega
      obtain ⟨l', w1, nd1, r1⟩ := simple h k (a ++ x :: c) (by simp at hk ⊢; omega) w'
      exact ⟨l', w1, nd1, Int.le_trans r1 hr⟩
/-- what the search from l on makes of the least numbers L: L' -/
structure Went (n : Nat) (R : Nat → Nat → Int) (l : List Nat) (L L' : Nat → Int) : Prop where
  le : ∀ b, L' b ≤ L b
  all : ∀ m b, Ext n l m → m.head? = some b → L' b ≤ rc R m
  has : ∀ b, L' b = L b ∨ ∃ m, Ext n l m ∧ m.head? = some b ∧ L' b = rc R m
/-- .. with only the first q posts tried as the next one -/
structure WentTo (n q : Nat) (R : Nat → Nat → Int) (l : List Nat) (L L' : Nat → Int) : Prop where
  le : ∀ b, L' b ≤ L b
  self : ∀ b, l.head? = some b → L' b ≤ rc R l
  all : ∀ p m b, p < q → ¬ p ∈ l → Ext n (p :: l) m → m.head? = some b → L' b ≤ rc R m
  has : ∀ b, L' b = L b ∨ ∃ m, Ext n l m ∧ m.head? = some b ∧ L' b = rc R m
theorem WentTo.start {n : Nat} {R : Nat → Nat → Int} {a : Nat} {t : List Nat} {L : Nat → Int} : WentTo n 0 R (a :: t) L (fun b => if b = a then min (L a) (rc R (a :: t)) else L b) := by
  refine ⟨fun b => ?_, fun b hb => ?_, fun p m b hp => absurd hp (Nat.not_lt_zero _), fun b => ?_⟩
  · split
    · subst_vars; omega
    · omega
  · have : a = b := by simpa using hb
    subst this
    rw [if_pos rfl]; omega
  · split
    · rename_i e
      subst e
      by_cases h : L b ≤ rc R (b :: t)
      · exact .inl (by omega)
      · exact .inr ⟨_, .self _, rfl, by omega⟩
    · exact .inl rfl
theorem WentTo.skip {n q : Nat} {R : Nat → Nat → Int} {l : List Nat} {L L' : Nat → Int} (w : WentTo n q R l L L') (h : q ∈ l) : WentTo n (q + 1) R l L L' :=
  ⟨w.le, w.self, fun p m b hp hn => by
    by_cases e : p = q
    · subst e; exact absurd h hn
    · exact w.all p m b (by omega) hn, w.has⟩
theorem WentTo.step {n q : Nat} {R : Nat → Nat → Int} {l : List Nat} {L L' L2 : Nat → Int} (w : WentTo n q R l L L') (hq : q < n) (hn : ¬ q ∈ l) (g : Went n R (q :: l) L' L2) : WentTo n (q + 1) R l L L2 := by
  refine ⟨fun b => Int.le_trans (g.le b) (w.le b), fun b hb => Int.le_trans (g.le b) (w.self b hb), fun p m b hp hnp e hb => ?_, fun b => ?_⟩
  · by_cases h : p = q
    · subst h; exact g.all m b e hb
    · exact Int.le_trans (g.le b) (w.all p m b (by omega) hnp e hb)
  · rcases g.has b with h | ⟨m, e, hb, h⟩
    · rw [h]; exact w.has b
    · exact .inr ⟨m, .step hq hn e, hb, h⟩
theorem WentTo.done {n : Nat} {R : Nat → Nat → Int} {l : List Nat} {L L' : Nat → Int} (w : WentTo n n R l L L') : Went n R l L L' := by
  refine ⟨w.le, fun m b e hb => ?_, w.has⟩
  cases e with
  | self => exact w.self b hb
  | step hp hn e' => exact w.all _ m b hp hn e' hb
/-- the search from one post on finds the least ways -/
theorem Went.least {n : Nat} {R M : Nat → Nat → Int} {a : Nat} {L L' : Nat → Int} (w : Went n R [a] L L') (hR : ∀ i j, i < n → j < n → 0 ≤ R i j) (l : Least n R M) (ha : a < n) {b : Nat} (hb : b < n) (hL : R a b < L b) (h0 : 0 < L b) : L' b = M a b := by
  have up : L' b ≤ M a b := by
    obtain ⟨v, hv, e⟩ := l.has a b ha hb
    obtain ⟨v', hv', nd, r⟩ := simple hR v.length v (Nat.le_refl _) hv
    have hla := hv'.la
    have hne : v' ≠ [] := by intro z; subst z; cases hla
    have e2 : v' = v'.dropLast ++ [a] := by
      have := (List.dropLast_concat_getLast hne).symm
      have hg : v'.getLast? = some (v'.getLast hne) := List.getLast?_eq_some_getLast hne
      rw [hg] at hla
      rw [Option.some.inj hla] at this
      exact this
    have hx : Ext n [a] v' := by
      rw [e2] at nd ⊢
      exact ext_suffix _ _ nd (by rw [← e2]; exact hv'.lt)
    have := w.all v' b hx hv'.hd
    omega
  rcases w.has b with h | ⟨m, e, hm, h⟩
  · have : L' b ≤ rc R [b, a] ∨ b = a := by
      by_cases hab : b = a
      · exact .inr hab
      · exact .inl (w.all [b, a] b (.step hb (by simpa using hab) (.self _)) rfl)
    rcases this with q | q
    · have e2 : rc R [b, a] = R a b := by simp [rc]
      omega
    · subst q
      have := w.all [b] b (.self _) rfl
      have e2 : rc R [b] = 0 := rfl
      omega
  · have := l.le a b m ha hb ⟨hm, e.last rfl, e.lt (by intro x hx; rw [List.mem_singleton.mp hx]; exact ha)⟩
    omega
end Toy

namespace Toy
/-! least sums by loosening, in place: plain mathematics -/
def setL (L : Nat → Option Int) (b : Nat) (v : Int) : Nat → Option Int := fun c => if c = b then some v else L c
def Rl (n : Nat) (L0 L : Nat → Option Int) : Prop := ∀ b x, b < n → L0 b = some x → ∃ y, L b = some y ∧ y ≤ x
def Dn (n : Nat) (R : Nat → Nat → Int) (L0 L : Nat → Option Int) (a b : Nat) : Prop := ∀ x, L0 a = some x → ∃ y, L b = some y ∧ y ≤ x + R a b
/-- no number is less than lw says -/
def Snb (n : Nat) (lw : Nat → Int) (L : Nat → Option Int) : Prop := ∀ b x, b < n → L b = some x → lw b ≤ x
def Up (n : Nat) (R : Nat → Nat → Int) (cost : Nat → Option Int) (k : Nat) (L : Nat → Option Int) : Prop := ∀ i j l c, l.length ≤ k + 1 → Way n i j l → cost i = some c → ∃ y, L j = some y ∧ y ≤ c + rc R l
section
variable {n : Nat} {R : Nat → Nat → Int} {L0 L L' : Nat → Option Int} {cost : Nat → Option Int} {lw : Nat → Int}
theorem Rl.refl : Rl n L L := fun b x _ h => ⟨x, h, Int.le_refl _⟩
theorem Rl.trans (h : Rl n L0 L) (g : Rl n L L') : Rl n L0 L' := fun b x hb e => by
  obtain ⟨y, e1, h1⟩ := h b x hb e
  obtain ⟨z, e2, h2⟩ := g b y hb e1
  exact ⟨z, e2, Int.le_trans h2 h1⟩
theorem Rl.set {b : Nat} {v : Int} (h : ∀ y, L b = some y → v ≤ y) : Rl n L (setL L b v) := fun c x _ e => by
  unfold setL
  by_cases hc : c = b
  · subst hc
    exact ⟨v, by rw [if_pos rfl], h x e⟩
  · exact ⟨x, by rw [if_neg hc]; exact e, Int.le_refl _⟩
theorem Dn.mono {a b : Nat} (hb : b < n) (g : Rl n L L') (d : Dn n R L0 L a b) : Dn n R L0 L' a b := fun x e => by
  obtain ⟨y, e1, h1⟩ := d x e
  obtain ⟨z, e2, h2⟩ := g b y hb e1
  exact ⟨z, e2, Int.le_trans h2 h1⟩
theorem Dn.now {a b : Nat} (ha : a < n) (g : Rl n L0 L) (h : Dn n R L L' a b) : Dn n R L0 L' a b := fun x e => by
  obtain ⟨x', e1, h1⟩ := g a x ha e
  obtain ⟨y, e2, h2⟩ := h x' e1
  exact ⟨y, e2, by omega⟩
theorem Snb.set {a b : Nat} {x : Int} (s : Snb n lw L) (ha : a < n) (hx : L a = some x) (tri : lw b ≤ lw a + R a b) : Snb n lw (setL L b (x + R a b)) := fun c y hc e => by
  unfold setL at e
  by_cases hcb : c = b
  · rw [if_pos hcb] at e
    cases e
    subst hcb
    have := s a x ha hx
    omega
  · rw [if_neg hcb] at e
    exact s c y hc e
theorem Up.zero : Up n R cost 0 cost := fun i j l c hl w hc => by
  match l, hl, w with
  | [x], _, w =>
    have h1 := w.hd
    have h2 := w.la
    simp at h1 h2
    subst h1; subst h2
    exact ⟨c, hc, by simp [rc]⟩
  | [], _, w => cases w.hd
  | _ :: _ :: _, hl, _ => simp at hl
theorem Up.step {k : Nat} (u : Up n R cost k L0) (g : Rl n L0 L) (d : ∀ a b, a < n → b < n → Dn n R L0 L a b) : Up n R cost (k + 1) L := fun i j l c hl w hc => by
  match l, hl, w with
  | [], _, w => cases w.hd
  | [x], _, w =>
    obtain ⟨y, e, h⟩ := u i j [x] c (by simp) w hc
    obtain ⟨z, e2, h2⟩ := g j y (w.lt j (by have := w.hd; simp at this; simp [this])) e
    exact ⟨z, e2, Int.le_trans h2 h⟩
  | q :: p :: t, hl, w =>
    have hq : q = j := by have := w.hd; simpa using this
    subst hq
    have w' : Way n i p (p :: t) := ⟨rfl, by have := w.la; rwa [List.getLast?_cons_cons] at this, fun x hx => w.lt x (List.mem_cons_of_mem _ hx)⟩
    obtain ⟨y, e, h⟩ := u i p (p :: t) c (by simp at hl ⊢; omega) w' hc
    obtain ⟨z, e2, h2⟩ := d p q (w.lt p (by simp)) (w.lt q (by simp)) y e
    refine ⟨z, e2, ?_⟩
    simp only [rc]
    omega
end
/-- what is to be found: the prices of the request behind the offsets -/
def costF (off : List Int) (row : List (Option Int)) (a : Nat) : Option Int := match row.getD a none with
  | some k => some (off.getD a 0 + k)
  | none => none
theorem costF_some {off : List Int} {row : List (Option Int)} {a : Nat} {k : Int} (h : row.getD a none = some k) : costF off row a = some (off.getD a 0 + k) := by unfold costF; rw [h]
theorem costF_none {off : List Int} {row : List (Option Int)} {a : Nat} (h : row.getD a none = none) : costF off row a = none := by unfold costF; rw [h]
section
variable {n : Nat} {R : Nat → Nat → Int} {ws : List (List Int)} {off : List Int} {row : List (Option Int)} {L : Nat → Option Int}
theorem raw_tri (M : Met n ws) (hne : srv n off row ≠ []) {a b : Nat} (ha : a < n) (hb : b < n) : rawAt ws (srv n off row) b ≤ rawAt ws (srv n off row) a + mat ws a b := by
  obtain ⟨q, hq, e⟩ := raw_has (ws := ws) (b := a) hne
  obtain ⟨p, k, hp, _, rfl⟩ := srv_mem.mp hq
  have h1 := raw_le (ws := ws) (b := b) hq
  have h2 := M.tri p a b hp ha hb
  simp only at e h1
  omega
theorem Snb.start (M : Met n ws) : Snb n (rawAt ws (srv n off row)) (costF off row) := fun b x hb e => by
  unfold costF at e
  cases hc : row.getD b none with
  | none => rw [hc] at e; cases e
  | some k =>
    rw [hc] at e
    cases e
    have h := raw_le (ws := ws) (b := b) (srv_mem.mpr ⟨b, k, hb, hc, rfl⟩ : (off.getD b 0 + k, b) ∈ srv n off row)
    have := M.z b hb
    simp only at h
    omega
theorem Up.fin (lst : Least n R (mat ws)) (hR : ∀ i j, i < n → j < n → 0 ≤ R i j) (hne : srv n off row ≠ []) (u : Up n R (costF off row) n L) (s : Snb n (rawAt ws (srv n off row)) L) {b : Nat} (hb : b < n) : L b = some (rawAt ws (srv n off row) b) := by
  obtain ⟨q, hq, e⟩ := raw_has (ws := ws) (b := b) hne
  obtain ⟨p, k, hp, hk, rfl⟩ := srv_mem.mp hq
  obtain ⟨l, w, er⟩ := lst.has p b hp hb
  obtain ⟨l', w', nd, hr⟩ := simple hR l.length l (Nat.le_refl _) w
  have hlen : l'.length ≤ n := pigeon n l' w'.lt nd
  obtain ⟨y, ey, hy⟩ := u p b l' _ (by omega) w' (costF_some hk)
  have h2 := s b y hb ey
  have hyr : y = rawAt ws (srv n off row) b := by
    simp only at e
    omega
  rw [ey, hyr]
end
end Toy

namespace Toy
open PySem PySem.Spec PyProof.Rows L2
/-! own exception classes with an __init__ of their own: what the written part says of them, as one flag -/
def isNew : List (Option Value) → Bool
  | _ :: _ :: _ :: _ :: some (.builtin m) :: _ :: [] => decide (m = "ValueError.__new__")
  | _ => false
def ownMro (C : Addr) : List Value → Bool
  | .ref D :: l => decide (D = C) && PySem.HandSPX.refsVE l
  | _ => false
def isTy : Value → Bool
  | .type t => decide (t = "type")
  | _ => false
def shapeB (C : Addr) (o : Obj) : Bool := isTy o.cls && isNew o.slots.toList && match o.data with
  | .cls c => ownMro C c.mro && c.hasDict && !c.hasDel
  | _ => false
theorem isNew_ok {l : List (Option Value)} (h : isNew l = true) : ∃ u v x y z, l = [u, v, x, y, some (.builtin "ValueError.__new__"), z] := by
  match l, h with
  | [u, v, x, y, some (.builtin m), z], h => exact ⟨u, v, x, y, z, by rw [of_decide_eq_true h]⟩
theorem ownMro_ok {C : Addr} {l : List Value} (h : ownMro C l = true) : ∃ r, l = .ref C :: r ∧ PySem.HandSPX.refsVE r = true := by
  match l, h with
  | .ref D :: r, h =>
    have g := Bool.and_eq_true_iff.mp h
    exact ⟨r, by rw [of_decide_eq_true g.1], g.2⟩
theorem isTy_ok {v : Value} (h : isTy v = true) : v = .type "type" := by
  match v, h with
  | .type t, h => rw [of_decide_eq_true h]
theorem shape_ok {C : Addr} {o : Obj} (h : shapeB C o = true) : ∃ nm q N bs bm sn sub ab col dd u v x y z, o = excClassObj nm q C N bs bm true sn sub ab col dd u v x y z "ValueError.__new__" ∧ PySem.HandSPX.refsVE bm = true := by
  obtain ⟨cl, dd, dt, ⟨sl⟩⟩ := o
  unfold shapeB at h
  have g := Bool.and_eq_true_iff.mp h
  have g1 := Bool.and_eq_true_iff.mp g.1
  have hc : cl = .type "type" := isTy_ok g1.1
  obtain ⟨u, v, x, y, z, hs⟩ := isNew_ok g1.2
  have hs : sl = _ := hs
  cases dt with
  | cls c =>
    have g2 := Bool.and_eq_true_iff.mp g.2
    have g3 := Bool.and_eq_true_iff.mp g2.1
    obtain ⟨nm, bs, mro, N, q, hd, sn, sub, ab, col, del⟩ := c
    obtain ⟨bm, hm, hr⟩ := ownMro_ok g3.1
    have hm : mro = _ := hm
    have hd' : hd = true := g3.2
    have hl : del = false := by
      have e : (!del) = true := g2.2
      cases del <;> first | rfl | cases e
    subst hm hc hs hd' hl
    exact ⟨nm, q, N, bs, bm, sn, sub, ab, col, dd, u, v, x, y, z, rfl, hr⟩
  | _ => cases g.2
def oexB (K : PySem.W.Frag) (C : Addr) : Bool := (K.lookup C).any (shapeB C) && xfB K C && PySem.W.keepIn K (.ref C) && decide (PySem.W.typeIn K (.ref C) = some (.type "type")) && decide (PySem.W.findIn K (.ref C) "__setattr__" = some (some (.builtin "object.__setattr__")))
theorem oexB_ok {K : PySem.W.Frag} {C : Addr} (h : oexB K C = true) : OexC K C ∧ XfC K C := by
  have g1 := Bool.and_eq_true_iff.mp h
  have g2 := Bool.and_eq_true_iff.mp g1.1
  have g3 := Bool.and_eq_true_iff.mp g2.1
  have g4 := Bool.and_eq_true_iff.mp g3.1
  have x := xfB_ok g4.2
  obtain ⟨o, ho, hs⟩ := Option.any_eq_true _ _ |>.mp g4.1
  obtain ⟨nm, q, N, bs, bm, sn, sub, ab, col, dd, u, v, w, y, z, rfl, hr⟩ := shape_ok hs
  exact ⟨⟨⟨nm, q, N, bs, bm, sn, sub, ab, col, dd, u, v, w, y, z, ho, hr⟩, of_decide_eq_true g1.2, x.exC, of_decide_eq_true g2.2, g3.2⟩, x⟩
/-! a head that asks one more flag of the written part -/
abbrev AlX : Type := He.AlD × Bool
def obsX (fa : List He.Fa) (fn : List He.DefD) (b : PySem.W.Frag → Bool) (K : PySem.W.Frag) : AlX := (He.obsD fa fn K, b K)
def obsXG (n : Nat) (fa : List He.Fa) (fn : List He.DefD) (b : PySem.W.Frag → Bool) (g : Addr → Option Obj) : AlX := obsX fa fn b (He.frG g (He.asD g n))
def hookX (n : Nat) (fa : List He.Fa) (fn : List He.DefD) (b : PySem.W.Frag → Bool) : PySem.W.Hook where
  α := AlX
  obs := fun s => obsXG n fa fn b s.heap.get?
  val := fun _ => (He.valD fn, true)
  says := fun _ h => ∃ K : PySem.W.Frag, K.In h ∧ He.SaysD fa fn K ∧ b K = true
  of := fun _ _ e => ⟨_, He.frG_in, congrArg Prod.fst e, congrArg Prod.snd e⟩
  keeps := fun _ _ _ ⟨K, hK, c, e⟩ k => ⟨K, PySem.W.Frag.In.keeps hK k, c, e⟩
theorem obsXG_eq {n : Nat} {fa : List He.Fa} {fn : List He.DefD} {b : PySem.W.Frag → Bool} {g : Addr → Option Obj} {s : Shared} (h : ∀ a, g a = s.heap.get? a) : obsXG n fa fn b g = (hookX n fa fn b).obs s := by
  have e : g = s.heap.get? := funext h
  rw [e] <;> rfl
/-! defs and methods that may raise -/
section
variable {P : Program} {w : World} {K : PySem.W.Frag} {mg : Str → Option Value} {base : Heap}
def OkX (P : Program) (w : World) (K : PySem.W.Frag) (mg : Str → Option Value) (base : Heap) (k : Nat) (x : Str) (ps : List Str) (sp : Sp) : Prop :=
  ∃ (f : Addr) (fd : FuncData), mg x = some (.ref f) ∧ PySem.W.keepIn K (.ref f) = true ∧ Binds K fd ps [] ∧ FnOk P w K mg base (L2.CX P w) k f fd ps sp
theorem okX_of {x : Str} {st : Stmt} {N ps : List Str} {k : Nat} {sp : Sp} (D : DefAt K mg x st ps) (S : FnScope N ps (defScope st)) (len : ∀ vs H Q E, sp vs H Q E → vs.length = ps.length)
    (hbody : ∀ (f : Addr) (cdv : Value) (A : Around) (outer : List Env) (s : Shared) (H : Hp) (vs : List V) (Q : VK) (E : XK), Room k (A.deeper (envOfC x (defScope st) s.heap.objs.size f cdv)) → sp vs H Q E →
      ∃ t, PSs (cxOf (L2.CX P w) P w K mg base N x (defScope st) f cdv A outer s H E) (defBody st) t ∧ t { nx := fun _ H' => Q .non H', rt := Q } (start N vs) H) : OkX P w K mg base (k + 1) x ps sp := by
  obtain ⟨f, fd, m, F, b⟩ := D.h
  exact ⟨f, fd, m, F.kp, b, F.okX S len fun cdv A outer s H vs Q E hr h => hbody f cdv A outer s H vs Q E hr h⟩
theorem okMX_of {m qual : Str} {C : Addr} {st : Stmt} {N ps : List Str} {k : Nat} {sp : Sp} (D : MethAt K C m qual st ps) (S : FnScope N ps (defScope st)) (len : ∀ vs H Q E, sp vs H Q E → vs.length = ps.length)
    (hbody : ∀ (f : Addr) (cdv : Value) (A : Around) (outer : List Env) (s : Shared) (H : Hp) (vs : List V) (Q : VK) (E : XK), Room k (A.deeper (envOfC qual (defScope st) s.heap.objs.size f cdv)) → sp vs H Q E →
      ∃ t, PSs (cxOf (L2.CX P w) P w K mg base N qual (defScope st) f cdv A outer s H E) (defBody st) t ∧ t { nx := fun _ H' => Q .non H', rt := Q } (start N vs) H) : OkM P w K mg base (L2.CX P w) (k + 1) C m ps sp := by
  obtain ⟨f, fd, M, F, b⟩ := D.h
  exact ⟨f, fd, M, b, F.okX S len fun cdv A outer s H vs Q E hr h => hbody f cdv A outer s H vs Q E hr h⟩
/-- an error class with an __init__ that keeps its one argument -/
structure ExcAt (K : PySem.W.Frag) (mg : Str → Option Value) (x : Str) (C : Addr) (f : Str) (st : Stmt) : Prop where
  mg : mg x = some (.ref C)
  T : OexC K C
  X : XfC K C
  no : PySem.W.findIn K (.ref C) f = some none
  h : ∃ (fI : Addr) (fd : FuncData) (q : Str), PySem.W.findIn K (.ref C) "__init__" = some (some (.ref fI)) ∧ PySem.W.typeIn K (.ref fI) = some (.type "function") ∧ Fun K "__init__" q st fI fd ∧ Binds K fd ["self", f] []
def spInitF (K : PySem.W.Frag) (f : Str) : Sp := fun vs H Q _ => ∃ (a C : Addr) (v : V), vs = [.ref a, v] ∧ OexC K C ∧ PySem.W.findIn K (.ref C) f = some none ∧ H a = some (exo a C none) ∧
  ∀ dx, H dx = none → dx ≠ a → Q .non (upd (upd H dx (exd dx [(f, v)])) a (exo a C (some dx)))
theorem init_raise {K : PySem.W.Frag} {f : Str} {H : Hp} {v : V} {C : Addr} {Q : XK} (T : OexC K C) (hno : PySem.W.findIn K (.ref C) f = some none) (h : ∀ d H', Same H H' → H d = none → H' d = some (.xd [(f, v)]) → Q (.ref C) (some d) H') :
    ∀ a, H a = none → spInitF K f (.ref a :: ([v] ++ [])) (upd H a (exo a C none)) (fun v' H2 => v' = .non ∧ ∃ (d : Addr) (fs : List (Str × V)), H2 a = some (exo a C (some d)) ∧ H2 d = some (exd d fs) ∧ H d = none ∧ Q (.ref C) (some d) (upd (L2.del H2 a) d (.xd fs))) (fun _ _ _ => False) := by
  intro a na
  refine ⟨a, C, v, rfl, T, hno, upd_same, fun dx ndx ne => ⟨rfl, dx, _, upd_same, ?_, ?_, h dx _ ?_ ?_ upd_same⟩⟩
  · rw [upd_ne ne]; exact upd_same
  · rw [upd_ne ne] at ndx; exact ndx
  · intro b o e
    have hba : b ≠ a := ne_of_none e na
    have hbd : b ≠ dx := by
      rw [upd_ne ne] at ndx; exact ne_of_none e ndx
    rw [upd_ne hbd, del_ne hba, upd_ne hba, upd_ne hbd, upd_ne hba]
    exact e
  · rw [upd_ne ne] at ndx; exact ndx
end
/-! a method's call in a try's body: what it may let out hangs on the slots -/
def tMethA (C : Addr) (m : Str) (sp : Sp) (E : L2.St → XK) (to : TE) (t : TA) : TE := fun σ H Q => to σ H fun y G => ∃ p x l, y = .ref p ∧ G p = some (.ins C x l) ∧ l.lookup m = none ∧ t σ G fun ys G2 => sp (y :: ys) G2 Q (E σ)
/-- how the call of a method is gone through -/
def CallOfMeth (X : Cx) (o : Expr) (m : Str) (es : List Expr) (ap cp : Pos) (pl : Sem Bool) : Prop :=
  eval (.Call (.Attribute o m ap) es [] cp) X.env = (do let y ← eval o X.env; standAt ap.atName; let (g, l) ← holding [y] (getMethod y m pl); callWith cp g l (backTo cp (starEach es X.env)) (backToKw cp (keywordEach [] X.env)))
theorem pe_methA {X : Cx} {CX : CXT} {k : Nat} {f C : Addr} {fd : FuncData} {ps : List Str} {sp : Sp} {E : L2.St → XK} {m : Str} {ap cp : Pos} {o e : Expr} {es : List Expr} {to : TE} {t : TA} {pl : Sem Bool}
    (ho : PE X o to) (cl : Cls X.K C) (me : Meth X.K C m f) (F : FnOk X.prog X.w X.K X.mg X.base CX k f fd ps sp) (rm : Room k X.A) (bi : Binds X.K fd ps []) (pa : ∀ σ, PassesAt CX X σ (E σ)) (ha : PA X (e :: es) t)
    (h1 : starEach (e :: es) X.env = (false, eval e X.env) :: starEach es X.env := by rfl) (h2 : (backTo cp (starEach es X.env)).any (·.1) = false := by rfl) (h3 : CallOfMeth X o m (e :: es) ap cp pl := by rfl) :
    PE X (.Call (.Attribute o m ap) (e :: es) [] cp) (tMethA C m sp E to t) := .mk fun pins s σ H Q I h => by
  apply PySem.W.methodCall_KW (pl := pl) _ h3
  apply thn (ho.run pins s σ H _ I h)
  rintro u s1 ⟨y, G, I1, ry, p, x, l, rfl, hp, hl, q⟩
  cases (show u = Value.ref p from ry)
  apply getmeth_ok I1 hp cl me hl
  apply PySem.W.callWith_K (first := [.ref p]) (h₀ := X.base) I.ok.mod.kin me.kp _ h1 h2
  apply thn (ha.run cp pins s1 σ G _ I1 q)
  rintro us s2 ⟨ys, G2, I2, rs, q2⟩
  exact ⟨I2.kIn, run_fnS (vs := .ref p :: ys) F rm bi (pa σ) I2 (.cons rfl rs) q2⟩
/-! try with several clauses, with a name or without -/
abbrev Clause := Value × Option Nat × (Addr → Value → Option Addr → TS)
def wManyA (K : PySem.W.Frag) (Wout : WX) (D : Ends) : List Clause → WX
  | [] => Wout
  | (c, none, ts) :: r => fun cls d σ H => ∃ b, PySem.W.exmOne K cls c = some b ∧ (b = true → ∀ a, H a = none → ts a cls d D σ H) ∧ (b = false → wManyA K Wout D r cls d σ H)
  | (c, some i, ts) :: r => fun cls d σ H => ∃ b, PySem.W.exmOne K cls c = some b ∧
      (b = true → ∀ a, H a = none → ts a cls d { nx := fun σ' H' => D.nx (σ'.set i none) H', rt := D.rt, bk := fun σ' H' => D.bk (σ'.set i none) H', ct := fun σ' H' => D.ct (σ'.set i none) H' } (σ.set i (some (.ref a))) H) ∧
      (b = false → wManyA K Wout D r cls d σ H)
inductive HdsA (X : Cx) : List ExceptHandler → List Clause → Prop
  | nil : HdsA X [] []
  | cons {x : Str} {c : Value} {ts : Addr → Value → Option Addr → TS} {b₀ : Stmt} {suite : List Stmt} {np pos' : Pos} {hds : List ExceptHandler} {l : List Clause} (hc : Names X x c)
      (hsu : ∀ (a : Addr) (oe : Obj) (cls : Value) (d : Option Addr) (pn : List (Addr × Obj)), Zc cls d oe → (∃ vs, oe.data = .fields vs) → PSs (X.suite a ((a, oe) :: pn)) (b₀ :: suite) (ts a cls d)) (r : HdsA X hds l) :
      HdsA X (.ExceptHandler (some (.Name x np)) none (b₀ :: suite) pos' :: hds) ((c, none, ts) :: l)
  | consA {x n : Str} {c : Value} {i : Nat} {ts : Addr → Value → Option Addr → TS} {b₀ : Stmt} {suite : List Stmt} {np pos' : Pos} {hds : List ExceptHandler} {l : List Clause} (hi : X.N[i]? = some n) (hln : X.env.kindOf n = some .local) (hc : Names X x c)
      (hsu : ∀ (a : Addr) (oe : Obj) (cls : Value) (d : Option Addr) (pn : List (Addr × Obj)), Zc cls d oe → (∃ vs, oe.data = .fields vs) → PSs (X.suite a ((a, oe) :: pn)) (b₀ :: suite) (ts a cls d)) (r : HdsA X hds l) :
      HdsA X (.ExceptHandler (some (.Name x np)) (some n) (b₀ :: suite) pos' :: hds) ((c, some i, ts) :: l)
section
variable {X : Cx} {pins : List (Addr × Obj)} {σ : L2.St} {H : Hp} {a : Addr} {cls : Value} {d : Option Addr} {B : Heap} {sI s : Shared}
/-- an error at a, of the class cls and with the dict d, has come down in X's def: sI is the state without it -/
structure Ground (X : Cx) (pins : List (Addr × Obj)) (σ : L2.St) (H : Hp) (a : Addr) (cls : Value) (d : Option Addr) (B : Heap) (sI s : Shared) : Prop where
  inv : Inv X pins σ H sI
  old : ∀ b o, sI.heap.get? b = some o → b ∉ frs X.stack → B.get? b = some o
  fly : HandSPX.FlyingZ B (X.env :: X.outer) a (Zc cls d) s.heap
  up : sI.heap.UpToSlots s.heap
  free : H a = none
  os : s.os = sI.os
  bare : AllBare s.gens
theorem Ground.now (g : Ground X pins σ H a cls d B sI s) : Inv X pins σ H s := g.inv.landed g.old g.fly.1 g.up g.os g.bare
theorem Ground.on (g : Ground X pins σ H a cls d B sI s) {h : Heap} (f : HandSPX.FlyingZ B (X.env :: X.outer) a (Zc cls d) h) (u : s.heap.UpToSlots h) : Ground X pins σ H a cls d B sI { s with heap := h } :=
  { inv := g.inv, old := g.old, fly := f, up := g.up.trans u, free := g.free, os := g.os, bare := g.bare }
/-- it is no frame of a def -/
theorem Ground.noFrame (g : Ground X pins σ H a cls d B sI s) : ¬ a ∈ frs (X.env :: X.outer) := by
  obtain ⟨oe, vs, e1, _, e2⟩ := g.fly.there
  intro m
  obtain ⟨_, u, e3, no⟩ := g.fly.2.2.1.mem m
  cases e1.symm.trans e3
  exact no vs e2
/-- what a clause's suite begins with -/
theorem Ground.seen (g : Ground X pins σ H a cls d B sI s) (hf : X.env.frame = some X.env.locals) : ∃ oe, s.heap.get? a = some oe ∧ Zc cls d oe ∧ (∃ vs, oe.data = .fields vs) ∧ Inv (X.suite a ((a, oe) :: (X.pn ++ pins))) [] σ H s := by
  obtain ⟨oe, vs, e1, z, e2⟩ := g.fly.there
  have no := g.noFrame
  refine ⟨oe, e1, z, ⟨vs, e2⟩, g.now.suite e1 e2 g.free (fun w => no ?_) fun w => no ?_⟩
  · subst w
    exact List.mem_filterMap.mpr ⟨X.env, .head _, hf⟩
  · have ⟨v, hv, ev⟩ := List.mem_filterMap.mp w
    exact List.mem_filterMap.mpr ⟨v, .tail _ hv, ev⟩
/-- the clause's class is asked for -/
theorem Ground.asked (g : Ground X pins σ H a cls d B sI s) (hf : X.env.frame = some X.env.locals) {x : Str} {c : Value} {np : Pos} {b : Bool} {Q : Bool → Shared → Prop} {E E' : Value → Shared → Prop} (hc : Names X x c) (hx : PySem.W.exmOne X.K cls c = some b) (q : Q b s) :
    wpAny (model X.prog X.w) (X.A.mark (some (.ref a))) (eval (.Name x np) X.env) (fun v t => wpAny (model X.prog X.w) (X.A.mark (some (.ref a))) (excMatches (.ref a) v) Q E t) E' s := by
  obtain ⟨oe, e1, z, _, S⟩ := g.seen hf
  have ty : PySem.W.Looks (model X.prog X.w) s.heap (typeOf (.ref a)) cls := fun _ _ _ _ kp r => wpAny_typeOf_ref (kp a oe e1) (z.1 ▸ r)
  have go := (PySem.W.exm_one (M := model X.prog X.w) g.now.kIn ty hx).here (A := X.A.mark (some (.ref a))) (E := E) q
  rcases hc.2.2 with m | ⟨m, v, n⟩
  · exact ld_glob (X := X.suite a ((a, oe) :: (X.pn ++ pins))) S hc.1 m go hc.2.1
  · exact ld_blt (X := X.suite a ((a, oe) :: (X.pn ++ pins))) S hc.1 m v go n hc.2.1
/-- no clause is left: it goes on -/
theorem Ground.goes (g : Ground X pins σ H a cls d B sI s) (hs : X.stack = X.env :: X.outer) (hf : X.env.frame = some X.env.locals) {W : WX} (tk : Takes X W) {Q : Flow → Shared → Prop} (w : W cls d σ H) :
    wpAny (model X.prog X.w) X.A (handleBy (.ref a) X.env []) Q X.xe s := by
  apply wpAny_handleBy_nil
  have off : ∀ {Q' : Flow → Shared → Prop}, wpAny (model X.prog X.w) X.A (setFlight (.ref a) X.env.frame) (fun _ t => wpAny (model X.prog X.w) X.A (throw (.ref a) : Sem Flow) Q' X.xe t) X.xe s := fun {Q'} => by
    rw [hf]
    apply HandSPX.setFlight_upZ g.fly
    intro h held u
    apply wpAny_throw
    apply tk
    exact ⟨a, B, sI, pins, σ, H, cls, d, rfl, g.inv, g.old, g.up.trans u, .inr (.inr (hs ▸ held)), g.free, g.os, g.bare, w⟩
  have ⟨_, _, _, oe, vs, T, _, _, e1, _, e2, e3, _⟩ := g.fly
  show wpAny _ _ (PySem.passOn _ _ _) _ _ _
  unfold PySem.passOn
  apply wpAny_bind
  apply wpAny_field e1 e2 e3
  rw [if_neg (by simp)]
  first
    | exact wpAny_bind (wpAny_pure (wpAny_bind off))
    | exact wpAny_bind off
/-- the ends of a suite are those of the try -/
theorem suite_ends {q : Addr × Obj} {D : Ends} {f : Flow} {t : Shared} (ok : X.Ok) (h : SP (X.suite a (q :: (X.pn ++ pins))) [] D f t) : SP X pins D f t := by
  cases f with
  | ret u => exact let ⟨v, τ, G, S, r, w⟩ := h; ⟨v, τ, G, S.unsuite ok, r, w⟩
  | next => exact let ⟨τ, G, S, w⟩ := h; ⟨τ, G, S.unsuite ok, w⟩
  | brk => exact let ⟨τ, G, S, w⟩ := h; ⟨τ, G, S.unsuite ok, w⟩
  | cont => exact let ⟨τ, G, S, w⟩ := h; ⟨τ, G, S.unsuite ok, w⟩
/-- the clauses one after the other -/
theorem Ground.clauses (hs : X.stack = X.env :: X.outer) (hf : X.env.frame = some X.env.locals) (hN : X.N.Nodup) {W : WX} (tk : Takes X W) {D : Ends} {hds : List ExceptHandler} {l : List Clause} (hh : HdsA X hds l) :
    ∀ {s : Shared}, Ground X pins σ H a cls d B sI s → wManyA X.K W D l cls d σ H → wpAny (model X.prog X.w) X.A (handleBy (.ref a) X.env hds) (SP X pins D) X.xe s := by
  induction hh with
  | nil => exact fun g w => g.goes hs hf tk w
  | cons hc hsu _ ih =>
    rintro s g ⟨b, hx, hy, hn⟩
    apply wpAny_handleBy_cons (codeAny_handlers_test (g.asked hf hc hx ?_)) nofun
    cases b
    · exact ih g (hn rfl)
    · apply codeAny_handlers_suite
      apply HandSPX.lands_againZ g.fly
      intro h f u
      have g2 := g.on f u
      obtain ⟨oe, _, z, fs, S⟩ := g2.seen hf
      exact wpAny_mono ((hsu a oe cls d (X.pn ++ pins) z fs).run [] _ σ H _ S (hy rfl a g.free)) (fun _ _ r => suite_ends g.inv.ok r) fun _ _ r => r.elim
  | @consA x n c i ts b₀ st np p' hds2 l2 hi hln hc hsu _ ih =>
    rintro s g ⟨b, hx, hy, hn⟩
    apply wpAny_handleBy_cons (codeAny_handlers_test (g.asked hf hc hx ?_)) nofun
    cases b
    · exact ih g (hn rfl)
    · apply codeAny_handlers_suite_as
      apply HandSPX.lands_againZ g.fly
      intro h f u
      have g2 := g.on f u
      obtain ⟨oe, _, z, fs, S⟩ := g2.seen hf
      apply store_ok (X := X.suite a ((a, oe) :: (X.pn ++ pins))) (v := .ref a) S hN hi (.inl hln) rfl _ (.inr hln)
      intro s2 S2
      refine wpAny_mono ((hsu a oe cls d (X.pn ++ pins) z fs).run [] s2 _ H _ S2 (hy rfl a g.free)) (fun fl s3 r => ?_) fun _ _ r => r.elim
      have gone : ∀ {τ : L2.St} {G : Hp} {P : Shared → Prop}, Inv X pins τ G s3 → (∀ s4, Inv X pins (τ.set i none) G s4 → P s4) → wpAny (model X.prog X.w) X.A (do bindName X.env n .none; unbindBehindTheSuite X.env n p') (fun _ s4 => P s4) X.xe s3 := fun J k => gone_ok J hN hi hln k
      have r2 := suite_ends g.inv.ok r
      cases fl with
      | ret u => exact let ⟨v, τ, G, J, rv, w⟩ := r2; gone J fun s4 J4 => ⟨v, _, G, J4, rv, w⟩
      | next => exact let ⟨τ, G, J, w⟩ := r2; gone J fun s4 J4 => ⟨_, G, J4, w⟩
      | brk => exact let ⟨τ, G, J, w⟩ := r2; gone J fun s4 J4 => ⟨_, G, J4, w⟩
      | cont => exact let ⟨τ, G, J, w⟩ := r2; gone J fun s4 J4 => ⟨_, G, J4, w⟩
/-- the ends of a try's body are those of the try -/
theorem body_ends {pn : List (Addr × Obj)} {xe : Value → Shared → Prop} {D : Ends} {f : Flow} {t : Shared} (ok : X.Ok) (h : SP (X.tr pn xe) [] D f t) (hp : ∀ {τ : L2.St} {G : Hp}, Inv (X.tr pn xe) [] τ G t → Inv X pins τ G t) : SP X pins D f t := by
  cases f with
  | ret u => exact let ⟨v, τ, G, S, r, w⟩ := h; ⟨v, τ, G, hp S, r, w⟩
  | next => exact let ⟨τ, G, S, w⟩ := h; ⟨τ, G, hp S, w⟩
  | brk => exact let ⟨τ, G, S, w⟩ := h; ⟨τ, G, hp S, w⟩
  | cont => exact let ⟨τ, G, S, w⟩ := h; ⟨τ, G, hp S, w⟩
end
theorem ps_try_manyA {X : Cx} {body : List Stmt} {h₀ : ExceptHandler} {hds : List ExceptHandler} {l : List Clause} {pos : Pos} {tb : WX → TS} {W : WX} (hs : X.stack = X.env :: X.outer) (hf : X.env.frame = some X.env.locals) (hN : X.N.Nodup) (tk : Takes X W)
    (hb : ∀ (V : WX) (pn : List (Addr × Obj)) (xe : Value → Shared → Prop), Takes (X.tr pn xe) V → PassesOwn (model X.prog X.w) X.A X.env xe → PSs (X.tr pn xe) body (tb V)) (hh : HdsA X (h₀ :: hds) l) :
    PS X (.Try body (h₀ :: hds) [] [] pos) (fun D σ H => tb (wManyA X.K W D l) D σ H) := .mk fun pins s σ H D I h => by
  have ok := I.ok
  have fr : X.A.frames = some (X.env :: X.outer) := hs ▸ ok.frames
  apply wpAny_Try_except
  let xe : Value → Shared → Prop := fun e t => wpAny (model X.prog X.w) X.A (noteFrame e X.env) (fun _ t2 => wpAny (model X.prog X.w) X.A (setFlight e none) (fun _ t3 => wpAny (model X.prog X.w) X.A (handleBy e X.env (h₀ :: hds)) (SP X pins D) X.xe t3) X.xe t2) X.xe t
  have run := (hb (wManyA X.K W D l) (X.pn ++ pins) xe (fun u t x => by
    obtain ⟨a, B, sI, ps, τ, G, cls, d, rfl, J, old, up, sky, free, os, bare, w⟩ := x
    apply Sky.land Zc.steady fr hf (hs ▸ sky)
    intro g fl u
    exact Ground.clauses hs hf hN tk hh { inv := J.ofTry ok, old := old, fly := fl, up := up.trans u, free := free, os := os, bare := bare } w) PassesOwn.looking).run [] s σ H D (I.toTry _) h
  refine wpAny_mono run (fun f t r => ?_) fun _ _ r => r
  have r2 := body_ends (pins := pins) ok r fun S => S.ofTry ok
  cases f with
  | next => exact wpAny_execs_nil r2
  | _ => exact r2
end Toy

namespace Toy
open PySem PySem.Spec PyProof.Rows L2
/-! isinstance with built-in types, of things that may be objects of own classes -/
def six : List String := ["bool", "int", "str", "list", "tuple", "dict"]
/-- no object of the class C is of one of the six types -/
def plainB (K : PySem.W.Frag) (C : Addr) : Bool := six.all fun T => decide (PySem.W.kitOne K (.ref C) (.type T) = some false)
theorem plainB_ok {K : PySem.W.Frag} {C : Addr} (h : plainB K C = true) {T : String} (m : T ∈ six) : PySem.W.kitOne K (.ref C) (.type T) = some false := of_decide_eq_true (List.all_eq_true.mp h T m)
/-- what the written part says of a class whose objects are asked for: `__class__` is found at object, and is read by its getter -/
abbrev clsG : Value := .builtin "object.__class__"
abbrev askG (K : PySem.W.Frag) (C : Addr) : Option (Option Value) × Option (Option Value) × Option Bool × Option Bool := (PySem.W.findIn K (.ref C) "__class__", PySem.W.specialIn K clsG "__get__", PySem.W.takesIn K clsG, PySem.W.mroIn K C (.type "object"))
def insB (K : PySem.W.Frag) (C : Addr) : Bool := plainB K C && decide (askG K C = (some (some clsG), some (some (.builtin "getset_descriptor.__get__")), some true, some true))
structure AskC (K : PySem.W.Frag) (C : Addr) : Prop where
  plain : plainB K C = true
  all : askG K C = (some (some clsG), some (some (.builtin "getset_descriptor.__get__")), some true, some true)
theorem insB_ok {K : PySem.W.Frag} {C : Addr} (h : insB K C = true) : AskC K C := ⟨(Bool.and_eq_true_iff.mp h).1, of_decide_eq_true (Bool.and_eq_true_iff.mp h).2⟩
section
variable {K : PySem.W.Frag} {C : Addr} (i : AskC K C)
include i
theorem AskC.gives : PySem.W.findIn K (.ref C) "__class__" = some (some clsG) := congrArg (·.1) i.all
theorem AskC.reads : PySem.W.specialIn K clsG "__get__" = some (some (.builtin "getset_descriptor.__get__")) := congrArg (·.2.1) i.all
theorem AskC.takes : PySem.W.takesIn K clsG = some true := congrArg (·.2.2.1) i.all
theorem AskC.roots : PySem.W.mroIn K C (.type "object") = some true := congrArg (·.2.2.2) i.all
end
/-- an error as a value -/
structure ErrC (K : PySem.W.Frag) (C : Addr) : Prop where
  ins : AskC K C
  x : XfC K C
/-- the name of the built-in type, "object" for an object of an own class -/
inductive TyG (K : PySem.W.Frag) (H : Hp) : V → String → Prop
  | blt {v : V} {n : String} : tyN H v = some n → TyG K H v n
  | ins {a C dx : Addr} {fs : List (Str × V)} : H a = some (.ins C dx fs) → Cls K C → AskC K C → TyG K H (.ref a) "object"
  | err {a C : Addr} : H a = some (ExO (.ref C) a) → ErrC K C → TyG K H (.ref a) "object"
theorem TyG.same {K : PySem.W.Frag} {H H' : Hp} {v : V} {n : String} (h : TyG K H v n) (k : Same H H') : TyG K H' v n := by
  cases h with
  | blt h => exact .blt (tyN_keep k h)
  | ins h c i => exact .ins (k _ _ h) c i
  | err h c => exact .err (k _ _ h) c
/-- .. of a class without an __init__ of its own -/
def vbm : List Value := [.type "ValueError", .type "Exception", .type "BaseException", .type "object"]
def errB (K : PySem.W.Frag) (C : Addr) : Bool := insB K C && xfB K C && PySem.W.excIn K C vbm "ValueError.__new__" && PySem.W.keepIn K (.ref C) && decide (PySem.W.typeIn K (.ref C) = some (.type "type"))
structure ErrX (K : PySem.W.Frag) (C : Addr) : Prop where
  er : ErrC K C
  ex : PySem.W.excIn K C [.type "ValueError", .type "Exception", .type "BaseException", .type "object"] "ValueError.__new__" = true
  kp : (PySem.W.keepIn K (.ref C)) = true
  ty : PySem.W.typeIn K (.ref C) = some (.type "type")
theorem errX_ok {K : PySem.W.Frag} {C : Addr} (h : errB K C = true) : ErrX K C := by
  simp only [errB, Bool.and_eq_true, decide_eq_true_eq] at h
  exact ⟨⟨insB_ok h.1.1.1.1, xfB_ok h.1.1.1.2⟩, h.1.1.2, h.1.2, h.2⟩
section
variable {X : Cx}
def isOf (n T : String) : Bool := n == T || (n == "bool" && T == "int")
def rIsG (K : PySem.W.Frag) (T : String) : List V → Hp → VK → Prop := fun xs H Q => ∃ (x : V) (n : String), xs = [x, .ty T] ∧ TyG K H x n ∧ Q (.bl (isOf n T)) H
theorem call_isG {T : String} (m : T ∈ six) : CallR X (.builtin "isinstance") (rIsG X.K T) := by
  intro pins s σ H xs us Q I r h
  obtain ⟨x, n, e, ty, q⟩ := h
  have hob : isOf "object" T = false := by
    unfold six at m
    simp only [List.mem_cons, List.not_mem_nil, or_false] at m
    rcases m with rfl | rfl | rfl | rfl | rfl | rfl <;> rfl
  cases ty with
  | blt hb => exact call_isN pins s σ H xs us Q I r ⟨x, n, _, e, hb, kit7 hb m, q⟩
  | ins ha c i =>
    rw [hob] at q
    exact call_isi pins s σ H xs us Q I r ⟨_, .ty T, .ref _, .type T, false, e, .ty T, .base (.ins ha c i.gives i.reads i.takes i.roots), plainB_ok i.plain m, q⟩
  | @err a C ha c =>
    rw [hob] at q
    subst e
    obtain ⟨u1, u2, rfl, r1, r2⟩ : ∃ u1 u2, us = [u1, u2] ∧ RelV (.ref a) u1 ∧ RelV (.ty T) u2 := by
      cases r with
      | cons p1 t => cases t with
        | cons p2 t => cases t with
          | nil => exact ⟨_, _, rfl, p1, p2⟩
    have e1 : u1 = .ref a := r1
    have e2 : u2 = .type T := r2
    subst e1 e2
    obtain ⟨⟨oe, vs, hget, hz, hf, _⟩, _⟩ := I.hok a _ ha
    have at_ : PySem.W.InstAt s.heap a oe C none := by
      cases oe with
      | mk oc od oda osl =>
        have z1 : oc = .ref C := hz.1
        have z2 : od = none := hz.2
        have z3 : oda = .fields vs := hf
        subst z1 z2 z3
        exact .mk hget rfl rfl trivial
    exact PySem.W.kia_one (PySem.W.handS_kitx_exc c.x.ga c.x.gg c.x.exC c.x.hdC c.ins.gives c.ins.reads c.ins.takes c.ins.roots) I.kIn at_ (plainB_ok c.ins.plain m) (fun z => nomatch z) fun tk => ⟨.bl false, H, I.tok tk, rfl, q⟩
/-- X(), an error class without an __init__: a new error, not raised -/
theorem pe_err0 {C : Addr} {bm : List Value} {B nw ini : String} {x : Str} {p pos : Pos} (F : ExcBaseFacts B nw ini bm) (q : PySem.W.excIn X.K C bm nw = true) (m : X.mg x = some (.ref C)) (k : PySem.W.keepIn X.K (.ref C) = true) (g : Gl X x) (hd : (x == ("__debug__" : Str)) = false := by decide) :
    PE X (.Call (.Name x p) [] [] pos) (fun _ H Q => ∀ a, H a = none → Q (.ref a) (upd H a (ExO (.ref C) a))) := .mk fun pins s σ H Q I h => by
  have done : wpAny (model X.prog X.w) X.A (call (.ref C) ([] ++ [])) (EP X pins σ Q) X.xe s := by
    obtain ⟨_, _, _, _, _, _, _, _, _, _, _, _, _, _, _, _, _, there, ns, no, tail⟩ := exc_obj I.kIn q
    apply wpAny_call_exc_subT F tail there ns no (hrest := Nat.zero_le _)
    intro h2 e new
    have free := I.hok.gone new.new
    have ⟨_, at_, _⟩ := new.there
    exact ⟨.ref e, upd H e (ExO (.ref C) e), I.laidN new.keeps new.new free (exO_ok at_ ⟨rfl, rfl⟩ rfl rfl rfl (show 4 < 6 from by decide)), rfl, h e free⟩
  exact wpAny_Call_Name_kw (ld_glob I g m (PySem.W.callWith_K0 I.kIn k done) hd)
end
end Toy

namespace Toy
open PySem PySem.Spec PyProof.Rows L2
/-! a thing compared with itself -/
inductive Selfy (K : PySem.W.Frag) (H : Hp) : V → Prop
  | flat {v : V} : scal v v = true → Selfy K H v
  | lst {a : Addr} {xs : List V} : SqL K H a xs → Selfy K H (.ref a)
  | tup {a : Addr} {xs : List V} : SqT K H a xs → Selfy K H (.ref a)
  | dct {a : Addr} {kvs : List (Key × V)} : H a = some (.dK kvs) → (kvs.map (·.1)).Nodup → Selfy K H (.ref a)
theorem kv_keys {ks : List (Key × V)} {vs : List (Key × Value)} (r : KV ks vs) : ks.map (·.1) = vs.map (·.1) := by
  unfold KV at r
  induction r with
  | nil => rfl
  | cons h _ ih => rw [List.map_cons, List.map_cons, ih, h.1]
theorem hits_self {A : Around} {s : Shared} {kb : List (Key × Value)} : ∀ {ka : List (Key × Value)}, (∀ p ∈ ka, valueAt kb p.1 = some p.2) → PySem.W.KeqHits A s kb ka true
  | [], _ => .nil
  | (k, v) :: r, h => PySem.W.KeqHits.hit (e := true) (b := true) (h (k, v) List.mem_cons_self) (SeqAt.EqAt.same v) (hits_self fun p m => h p (List.mem_cons_of_mem _ m))
theorem find_self {α β : Type} [DecidableEq α] : ∀ {l : List (α × β)}, (l.map (·.1)).Nodup → ∀ p ∈ l, (l.find? fun q => decide (q.1 = p.1)) = some p
  | [], _, p, m => by cases m
  | q :: l, nd, p, m => by
    rw [List.map_cons, List.nodup_cons] at nd
    rw [List.find?_cons]
    rcases List.mem_cons.mp m with rfl | m
    · simp
    · have : q.1 ≠ p.1 := fun e => nd.1 (by rw [e]; exact List.mem_map.mpr ⟨p, m, rfl⟩)
      rw [decide_eq_false this]
      exact find_self nd.2 p m
section
variable {X : Cx}
def rEqS (K : PySem.W.Frag) (b : Bool) : R2 := fun x y H Q => x = y ∧ Selfy K H x ∧ Q (.bl b) H
theorem op_eqS (hu : X.A.units + 64 < cLine) : OpR X (compareOp .Eq) (rEqS X.K true) := by
  intro pins s σ H x y v u Q I rx ry h
  obtain ⟨rfl, S, q⟩ := h
  have yes : ∀ n : Nat, (List.range n).all (fun _ => true) = true := fun n => List.all_eq_true.mpr fun _ _ => rfl
  cases S with
  | flat f => exact op_eq pins s σ H x x v u Q I rx ry ⟨f, by rw [decide_eq_true rfl]; exact q⟩
  | @lst a xs hl =>
    cases (show v = Value.ref a from rx)
    cases (show u = Value.ref a from ry)
    obtain ⟨us, _, p, _⟩ := I.list hl
    exact SeqAt.eq_listAt (e := fun _ => true) p.isList p.isList rfl (by omega) (fun j _ _ => SeqAt.EqAt.same _) (by rw [yes]; exact ⟨.bl true, H, I, rfl, q⟩)
  | @tup a xs hl =>
    cases (show v = Value.ref a from rx)
    cases (show u = Value.ref a from ry)
    obtain ⟨us, _, p, _⟩ := I.tuple hl
    exact SeqAt.eq_tupleAt (e := fun _ => true) p p (by omega) (fun j _ _ => SeqAt.EqAt.same _) (by rw [yes, beq_self_eq_true]; exact ⟨.bl true, H, I, rfl, q⟩)
  | @dct a kvs ha nd =>
    cases (show v = Value.ref a from rx)
    cases (show u = Value.ref a from ry)
    obtain ⟨_, y, vs, r, d⟩ := (show ObjOk X.prog X.w H s.heap a (.dK kvs) from I.hok a _ ha)
    refine PySem.W.keq_eq (knd := mixKind X.prog X.w) (r := true) y y d d (by omega) (fun _ => hits_self fun p m => ?_) ?_
    · show ((vs.find? fun q => decide (q.1 = p.1)).map (·.2)) = some p.2
      rw [find_self (by rw [← kv_keys r]; exact nd) p m]; rfl
    · rw [beq_self_eq_true]; exact ⟨.bl true, H, I, rfl, q⟩
theorem op_neS (hu : X.A.units + 64 < cLine) : OpR X (compareOp .NotEq) (rEqS X.K false) := by
  intro pins s σ H x y v u Q I rx ry h
  obtain ⟨rfl, S, q⟩ := h
  have yes : ∀ n : Nat, (List.range n).all (fun _ => true) = true := fun n => List.all_eq_true.mpr fun _ _ => rfl
  have no : EP X pins σ Q (.bool false) s := ⟨.bl false, H, I, rfl, q⟩
  cases S with
  | flat f => exact op_ne pins s σ H x x v u Q I rx ry ⟨f, by rw [decide_eq_true rfl]; exact q⟩
  | @lst a xs hl =>
    cases (show v = Value.ref a from rx)
    cases (show u = Value.ref a from ry)
    obtain ⟨us, _, p, _⟩ := I.list hl
    exact SeqAt.RcNeAt.lists (e := fun _ => true) p.isList p.isList rfl (by omega) (fun j _ _ => SeqAt.EqAt.same _) _ _ _ _ (by rw [yes]; exact no)
  | @tup a xs hl =>
    cases (show v = Value.ref a from rx)
    cases (show u = Value.ref a from ry)
    obtain ⟨us, _, p, _⟩ := I.tuple hl
    exact SeqAt.RcNeAt.tuples (e := fun _ => true) p p (by omega) (fun j _ _ => SeqAt.EqAt.same _) _ _ _ _ (by rw [yes, beq_self_eq_true]; exact no)
  | @dct a kvs ha nd =>
    cases (show v = Value.ref a from rx)
    cases (show u = Value.ref a from ry)
    obtain ⟨_, y, vs, r, d⟩ := (show ObjOk X.prog X.w H s.heap a (.dK kvs) from I.hok a _ ha)
    refine PySem.W.keq_ne (knd := mixKind X.prog X.w) (r := true) y y d d (by omega) (fun _ => hits_self fun p m => ?_) ?_
    · show ((vs.find? fun q => decide (q.1 = p.1)).map (·.2)) = some p.2
      rw [find_self (by rw [← kv_keys r]; exact nd) p m]; rfl
    · rw [beq_self_eq_true]; exact no
end
/-! errors as values, with a field or without -/
structure ErrV (K : PySem.W.Frag) (C : Addr) : Prop where
  ask : AskC K C
  x : XfC K C
theorem any_cls {K : PySem.W.Frag} {C : Addr} (h : PySem.W.hasDictIn K C = true) : (PySem.W.clsIn K C).isSome = true := by
  unfold PySem.W.hasDictIn at h
  cases e : PySem.W.clsIn K C with
  | none => rw [e] at h; cases h
  | some _ => rfl
/-- at e an error of the class at C; its dict at d has the fields fs, where it has one -/
inductive ErrAt (H : Hp) (e C : Addr) : Prop
  | bare : H e = some (ExO (.ref C) e) → ErrAt H e C
  | kept {d : Addr} {fs : List (Str × V)} : H e = some (exo e C (some d)) → H d = some (exd d fs) → ErrAt H e C
theorem ErrAt.keep {H H' : Hp} {e C : Addr} (h : ErrAt H e C) (k : Same H H') : ErrAt H' e C := by
  cases h with
  | bare h => exact .bare (k _ _ h)
  | kept h1 h2 => exact .kept (k _ _ h1) (k _ _ h2)
section
variable {X : Cx} {pins : List (Addr × Obj)} {σ : L2.St} {H : Hp} {s : Shared}
theorem ErrAt.inst {e C : Addr} (h : ErrAt H e C) (I : Inv X pins σ H s) : ∃ oe od, PySem.W.InstAt s.heap e oe C od := by
  cases h with
  | bare h =>
    obtain ⟨⟨oe, vs, g, z, f, _⟩, _⟩ := I.hok e _ h
    obtain ⟨c, d, dt, sl⟩ := oe
    obtain ⟨z1, z2⟩ := z
    cases z1
    cases z2
    cases f
    exact ⟨_, none, g, rfl, rfl, trivial⟩
  | @kept d fs h1 h2 =>
    obtain ⟨t, g⟩ := exo_at I.hok h1
    obtain ⟨m, ns, _⟩ := exd_at I.hok h2
    obtain ⟨od, g2, _⟩ := lookIn_ns ns
    exact ⟨_, some od, g, rfl, rfl, g2⟩
end
section
variable {X : Cx}
/-- isinstance of such an error, by one class -/
def rIsEV (K : PySem.W.Frag) : List V → Hp → VK → Prop := fun xs H Q => ∃ (e C : Addr) (c : V) (u : Value) (b : Bool), xs = [.ref e, c] ∧ ErrAt H e C ∧ ErrV K C ∧ ClsV c u ∧ PySem.W.kitOne K (.ref C) u = some b ∧ Q (.bl b) H
theorem call_isEV : CallR X (.builtin "isinstance") (rIsEV X.K) := by
  intro pins s σ H xs us Q I r h
  obtain ⟨e, C, c, u, b, rfl, at_, V, k, ok, q⟩ := h
  obtain ⟨u1, u2, rfl, r1, r2⟩ := vals2 r
  cases (show u1 = Value.ref e from r1)
  cases k.eq r2
  obtain ⟨oe, od, J⟩ := at_.inst I
  exact PySem.W.kia_one (PySem.W.kitx_exc (any_cls V.x.hdC) V.x.ga V.x.gg V.x.exC V.ask.gives V.ask.reads V.ask.takes V.ask.roots) I.kIn J ok (fun z => nomatch z) fun tk => ⟨.bl b, H, I.tok tk, rfl, q⟩
/-- .. by a tuple of classes -/
def rIsEVT (K : PySem.W.Frag) : List V → Hp → VK → Prop := fun xs H Q => ∃ (e C tp : Addr) (cs : List V) (ws : List Value) (b : Bool), xs = [.ref e, .ref tp] ∧ ErrAt H e C ∧ ErrV K C ∧ H tp = some (.tup cs) ∧ Paired ClsV cs ws ∧ PySem.W.kitAny K (.ref C) ws = some b ∧ Q (.bl b) H
theorem call_isEVT : CallR X (.builtin "isinstance") (rIsEVT X.K) := by
  intro pins s σ H xs us Q I r h
  obtain ⟨e, C, tp, cs, ws, b, rfl, at_, V, ht, k, ok, q⟩ := h
  obtain ⟨u1, u2, rfl, r1, r2⟩ := vals2 r
  cases (show u1 = Value.ref e from r1)
  cases (show u2 = Value.ref tp from r2)
  obtain ⟨oe, od, J⟩ := at_.inst I
  obtain ⟨its, rv, ⟨o, g, hc, n, hd⟩, _⟩ := I.tuple (SqT.of ht)
  cases ClsV.all k rv
  obtain ⟨c, dd, dt, sl⟩ := o
  cases hc
  cases hd
  exact PySem.W.kia_tup (PySem.W.kitx_exc (any_cls V.x.hdC) V.x.ga V.x.gg V.x.exC V.ask.gives V.ask.reads V.ask.takes V.ask.roots) I.kIn J g ok (fun z => nomatch z) fun tk => ⟨.bl b, H, I.tok tk, rfl, q⟩
/-- e.f of an error that is held -/
def tXv (K : PySem.W.Frag) (f : Str) (te : TE) : TE := fun σ H Q => te σ H fun x G => ∃ (e C d : Addr) (fs : List (Str × V)) (v : V), x = .ref e ∧ G e = some (exo e C (some d)) ∧ G d = some (exd d fs) ∧ XfC K C ∧ PySem.W.findIn K (.ref C) f = some none ∧ fs.lookup f = some v ∧ Q v G
theorem pe_xv {e : Expr} {te : TE} {pos : Pos} {f : Str} (he : PE X e te) (hb : attributeBase e f X.env (eval e X.env) = eval e X.env := by rfl) : PE X (.Attribute e f pos) (tXv X.K f te) := .mk fun pins s σ H Q I h => by
  refine attr_of hb (thn (he.run pins s σ H _ I h) ?_)
  rintro u s1 ⟨x, G, I1, rx, e, C, d, fs, v, rfl, g1, g2, x5, no, l, q⟩
  cases (show u = Value.ref e from rx)
  obtain ⟨t, o1⟩ := exo_at I1.hok g1
  obtain ⟨m, ns, rel⟩ := exd_at I1.hok g2
  obtain ⟨od, o2, lk⟩ := lookIn_ns ns
  obtain ⟨u, hu, ru⟩ := RelO.some_of (v := v) (o := m f) (by rw [← l]; exact rel f)
  exact HandSPX.exc_get I1.kIn ⟨o1, rfl, rfl, o2⟩ x5.ga x5.gg x5.exC (PySem.W.findObj_own x5.hdC no rfl (by rw [lk, hu])) (handed_of ru) ⟨v, G, I1.tok _, ru, q⟩
end
section
variable {X : Cx} {pins : List (Addr × Obj)} {σ : L2.St} {H : Hp} {s : Shared}
/-- the call of an error class by its values -/
theorem made_err {CX : CXT} {k : Nat} {f : Addr} {fd : FuncData} {ps : List Str} {sp : Sp} {C : Addr} {vs : List V} {us : List Value} {Q : VK} (T : OexC X.K C) (at_ : PySem.W.findIn X.K (.ref C) "__init__" = some (some (.ref f)))
    (ty : PySem.W.typeIn X.K (.ref f) = some (.type "function")) (F : FnOk X.prog X.w X.K X.mg X.base CX k f fd ps sp) (rm : Room (k + 1) X.A) (bi : Binds X.K fd ps []) (pa : Passes CX X (fun _ _ _ => False)) (I : Inv X pins σ H s) (r : Vals vs us)
    (h : vs.length ≤ 1000 ∧ ∀ a, H a = none → sp (.ref a :: vs) (upd H a (exo a C none)) (fun v G => v = .non ∧ Q (.ref a) G) (fun _ _ _ => False)) :
    wpAny (model X.prog X.w) X.A (call (.ref C) us) (EP X pins σ Q) X.xe s := by
  obtain ⟨_, _, _, _, mr, _, _, _, _, _, _, _, _, _, _, look, tail⟩ := T.cls
  obtain ⟨hp, gs, dr, tk, os⟩ := s
  have old : hp.objs.size ≤ hp.objs.size + 1 := Nat.le_succ _
  let h1 := (hp.push (PySem.W.kdv_tup us)).push (PySem.HandSPX.excO C hp.objs.size)
  have here : h1.get? (hp.objs.size + 1) = some (PySem.HandSPX.excO C hp.objs.size) := by heap_get
  have q := h.2 _ (I.hok.fresh old)
  have J : Inv X pins σ (upd H (hp.objs.size + 1) (exo (hp.objs.size + 1) C none)) ⟨h1, gs, dr, tk, os⟩ := I.laid (t' := tk) (fun b o e => Heap.get?_push_of_some _ (Heap.get?_push_of_some _ e)) old (exo_ok here)
  have all : Vals (V.ref (hp.objs.size + 1) :: vs) (Value.ref (hp.objs.size + 1) :: us) := .cons rfl r
  have many : (Value.ref (hp.objs.size + 1) :: us ++ []).length = ps.length := by rw [List.append_nil, ← all.length]; exact F.len _ _ _ _ q
  have bd := bi ⟨h1, gs, dr, tk, os⟩ (Value.ref (hp.objs.size + 1) :: us) J.kIn many
  rw [List.append_nil] at bd
  have few : us.length ≤ sizeLine := by rw [← Paired.length r]; exact Nat.le_trans h.1 (by decide)
  have run := F.run _ X.stack _ _ ⟨Value.ref (hp.objs.size + 1) :: us, []⟩ _ _ _ _ (rm.make C us []) (J.env0.make C us []) bd all q
  refine wpAny_call (PySem.HandSPX.call_own PySem.F.excBase_ValueError (fun Y => PySem.HandSPX.refsVE_contains Y mr tail) (I.kIn _ _ look) (PySem.W.looks_findIn I.kIn at_) (fun self => PySem.W.bind_fn I.kIn self ty) few (codeAny_mono run fun res t w => ?_))
  match res, w with
  | .error er, w => exact pa pins σ _ _ er t J w
  | .ok (.ret u), w =>
    obtain ⟨v, G, o2, b2, un2, ok2, rv, rfl, q2⟩ := w
    exact ⟨rv, .ref (hp.objs.size + 1), G, J.call' (ch := []) o2 un2 ok2 b2 (fun b z => absurd z (by simp)), rfl, q2⟩
end
/-- C(e): a new error that is kept -/
def tMkV (C : Addr) (sp : Sp) (ta : TA) : TE := fun σ H Q => ta σ H fun vs G => vs.length ≤ 1000 ∧ ∀ a, G a = none → sp (.ref a :: vs) (upd G a (exo a C none)) (fun v G2 => v = .non ∧ Q (.ref a) G2) (fun _ _ _ => False)
theorem pe_mkV {X : Cx} {CX : CXT} {x : Str} {C f : Addr} {k : Nat} {fd : FuncData} {ps : List Str} {sp : Sp} {e : Expr} {es : List Expr} {ta : TA} {p pos : Pos} (T : OexC X.K C) (at_ : PySem.W.findIn X.K (.ref C) "__init__" = some (some (.ref f)))
    (ty : PySem.W.typeIn X.K (.ref f) = some (.type "function")) (F : FnOk X.prog X.w X.K X.mg X.base CX k f fd ps sp) (rm : Room (k + 1) X.A) (bi : Binds X.K fd ps []) (pa : Passes CX X (fun _ _ _ => False)) (g : Gl X x) (m : X.mg x = some (.ref C)) (ha : PA X (e :: es) ta)
    (h0 : (x == ("__debug__" : Str)) = false := by decide) (h1 : starEach (e :: es) X.env = (false, eval e X.env) :: starEach es X.env := by rfl) (h2 : (backTo pos (starEach es X.env)).any (·.1) = false := by rfl) :
    PE X (.Call (.Name x p) (e :: es) [] pos) (tMkV C sp ta) := .mk fun pins s σ H Q I h =>
  wpAny_Call_Name_kw (ld_glob I g m (PySem.W.callWith_K (h₀ := X.base) I.ok.mod.kin T.kC (thn (ha.run pos pins s σ H _ I h) fun us s1 ⟨vs, G, I1, r, q⟩ => ⟨I1.kIn, made_err T at_ ty F rm bi pa I1 r q⟩) h1 h2) h0)

/-- what the making of such an error asks -/
theorem mk_val {K : PySem.W.Frag} {f : Str} {H : Hp} {v : V} {C : Addr} {Q : Addr → Hp → Prop} {E : XK} (T : OexC K C) (no : PySem.W.findIn K (.ref C) f = some none)
    (h : ∀ a d G, Same H G → H a = none → G a = some (exo a C (some d)) → G d = some (exd d [(f, v)]) → Q a G) : [v].length ≤ 1000 ∧ ∀ a, H a = none → spInitF K f (.ref a :: [v]) (upd H a (exo a C none)) (fun u G => u = .non ∧ Q a G) E := by
  refine ⟨by show 1 ≤ 1000; decide, fun a na => ⟨a, C, v, rfl, T, no, upd_same, fun d nd ne => ⟨rfl, h a d _ ?_ na upd_same ?_⟩⟩⟩
  · intro b o e
    have hba : b ≠ a := ne_of_none e na
    have hbd : b ≠ d := by
      rw [upd_ne ne] at nd; exact ne_of_none e nd
    rw [upd_ne hba, upd_ne hbd, upd_ne hba]
    exact e
  · rw [upd_ne ne]; exact upd_same
/-! a family of error classes under one root: none is one of the others -/
def five : List Value := [.type "LookupError", .type "ArithmeticError", .type "RuntimeError", .type "TypeError", .type "AttributeError"]
def errB1 (K : PySem.W.Frag) (C h : Addr) : Bool := insB K C && (xfB K C && (decide (PySem.W.kitOne K (.ref C) (.ref h) = some true) && (decide (PySem.W.kitOne K (.ref C) (.type "ValueError") = some true) && decide (PySem.W.kitAny K (.ref C) five = some false))))
def errsB (K : PySem.W.Frag) (cs : List Addr) (h : Addr) : Bool := (cs.all fun C => errB1 K C h) && (List.range cs.length).all fun i => (List.range cs.length).all fun j => decide (PySem.W.kitOne K (.ref (cs.getD i 0)) (.ref (cs.getD j 0)) = some (decide (i = j)))
structure Errs (K : PySem.W.Frag) (cs : List Addr) (h : Addr) : Prop where
  one : ∀ C ∈ cs, errB1 K C h = true
  two : ∀ i j, i < cs.length → j < cs.length → PySem.W.kitOne K (.ref (cs.getD i 0)) (.ref (cs.getD j 0)) = some (decide (i = j))
theorem errsB_ok {K : PySem.W.Frag} {cs : List Addr} {h : Addr} (e : errsB K cs h = true) : Errs K cs h := by
  obtain ⟨e1, e2⟩ := Bool.and_eq_true_iff.mp e
  exact ⟨List.all_eq_true.mp e1, fun i j hi hj => of_decide_eq_true (List.all_eq_true.mp (List.all_eq_true.mp e2 i (List.mem_range.mpr hi)) j (List.mem_range.mpr hj))⟩
section
variable {K : PySem.W.Frag} {cs : List Addr} {h : Addr} (E : Errs K cs h) {C : Addr} (m : C ∈ cs)
include E m
theorem Errs.val : ErrV K C := by
  obtain ⟨e1, e2⟩ := Bool.and_eq_true_iff.mp (E.one C m)
  exact ⟨insB_ok e1, xfB_ok (Bool.and_eq_true_iff.mp e2).1⟩
theorem Errs.root : PySem.W.kitOne K (.ref C) (.ref h) = some true := of_decide_eq_true (Bool.and_eq_true_iff.mp (Bool.and_eq_true_iff.mp (Bool.and_eq_true_iff.mp (E.one C m)).2).2).1
theorem Errs.isVE : PySem.W.kitOne K (.ref C) (.type "ValueError") = some true := of_decide_eq_true (Bool.and_eq_true_iff.mp (Bool.and_eq_true_iff.mp (Bool.and_eq_true_iff.mp (Bool.and_eq_true_iff.mp (E.one C m)).2).2).2).1
theorem Errs.noOther : PySem.W.kitAny K (.ref C) five = some false := of_decide_eq_true (Bool.and_eq_true_iff.mp (Bool.and_eq_true_iff.mp (Bool.and_eq_true_iff.mp (Bool.and_eq_true_iff.mp (E.one C m)).2).2).2).2
end
/-- the heap behind the raising of such an error -/
def raisedHp (H : Hp) (a dx C : Addr) (fs : List (Str × V)) : Hp := upd (L2.del (upd (upd (upd H a (exo a C none)) dx (exd dx fs)) a (exo a C (some dx))) a) dx (.xd fs)
theorem raised_same {H : Hp} {a dx C : Addr} {fs : List (Str × V)} (na : H a = none) (nd : upd H a (exo a C none) dx = none) (ne : dx ≠ a) : Same H (raisedHp H a dx C fs) := fun b o e => by
  have hba : b ≠ a := ne_of_none e na
  have hbd : b ≠ dx := by
    rw [upd_ne ne] at nd; exact ne_of_none e nd
  unfold raisedHp
  rw [upd_ne hbd, del_ne hba, upd_ne hba, upd_ne hbd, upd_ne hba]
  exact e
end Toy

namespace Toy
open PySem PySem.Spec PyProof.Rows L2
/-! sets that can be gone through, over any kind of keys -/
theorem paired_perm {α β : Type} {R : α → β → Prop} {xs ys : List α} (p : ys.Perm xs) : ∀ {ks : List β}, Paired R xs ks → ∃ js, js.Perm ks ∧ Paired R ys js := by
  induction p with
  | nil => exact fun h => ⟨_, .refl _, h⟩
  | cons x _ ih =>
    intro ks h
    cases h with
    | cons h1 h2 =>
      obtain ⟨js, q, r⟩ := ih h2
      exact ⟨_, .cons _ q, .cons h1 r⟩
  | swap x y l =>
    intro ks h
    cases h with
    | cons h1 h2 => cases h2 with
      | cons h2 h3 => exact ⟨_, .swap _ _ _, .cons h2 (.cons h1 h3)⟩
  | trans _ _ ih1 ih2 =>
    intro ks h
    obtain ⟨js, q, r⟩ := ih2 h
    obtain ⟨is, q2, r2⟩ := ih1 r
    exact ⟨is, q2.trans q, r2⟩
section
variable {P : Program} {w : World} {κ : Type} [DecidableEq κ] {knd : KeyKind P w κ}
structure Entry (knd : KeyKind P w κ) (e : Int × Value) (k : κ) : Prop where
  key : knd.is k e.2 = true
  hash : e.1 = knd.hash k
  scan : e.2.scannable = true
/-- a set's table: its entries are those of the keys ks, and it can be gone through -/
structure Tab (knd : KeyKind P w κ) (es : Array (Int × Value)) (t : SetTable) (ks : List κ) : Prop where
  ent : Paired (Entry knd) es.toList ks
  once : ks.Nodup
  few : es.size < scanBound
  fits : t.fits es.size = true
  ris : Ris t.place.toList
  led : w.params.followText "set-order" = true ∨ t.led = true
theorem Tab.size {es : Array (Int × Value)} {t : SetTable} {ks : List κ} (T : Tab knd es t ks) : es.size = ks.length := by
  rw [← Array.length_toList]; exact Paired.length T.ent
theorem Tab.elems {es : Array (Int × Value)} {t : SetTable} {ks : List κ} (T : Tab knd es t ks) : ElemsOf knd es.toList := fun e m => by
  obtain ⟨i, hi⟩ := List.getElem?_of_mem m
  have : i < ks.length := by rw [← Paired.length T.ent]; exact (List.getElem?_eq_some_iff.mp hi).1
  obtain ⟨k, _, r⟩ := prd_at1 T.ent hi
  exact ⟨⟨k, r.key, r.hash⟩, r.scan⟩
theorem ent_has {l : List (Int × Value)} {ks : List κ} (p : Paired (Entry knd) l ks) (k : κ) : k ∈ ks ↔ ∃ e ∈ l, knd.is k e.2 = true := by
  induction p with
  | nil => simp
  | @cons e j l js r _ ih =>
    simp only [List.mem_cons, ih]
    constructor
    · rintro (rfl | ⟨x, m, h⟩)
      · exact ⟨e, .inl rfl, r.key⟩
      · exact ⟨x, .inr m, h⟩
    · rintro ⟨x, rfl | m, h⟩
      · exact .inl (knd.inj _ _ _ h r.key)
      · exact .inr ⟨x, m, h⟩
/-- laid anew, at another size -/
theorem Tab.again {es : Array (Int × Value)} {t : SetTable} {ks : List κ} (T : Tab knd es t ks) (n : Nat) : ∃ js, js.Perm ks ∧ Tab knd (relayAll t es n).1 (relayAll t es n).2.1 js := by
  have p := relayAll_perm t es n
  obtain ⟨js, q, r⟩ := paired_perm p T.ent
  refine ⟨js, q, r, q.nodup_iff.mpr T.once, ?_, relayAll_fits t es n, relayAll_ris t es n, T.led.imp id fun z => (relayAll_led t es n).trans z⟩
  rw [← Array.length_toList, p.length_eq, Array.length_toList]
  exact T.few
/-- one more -/
theorem Tab.more {es : Array (Int × Value)} {t : SetTable} {ks : List κ} (T : Tab knd es t ks) {k : κ} {v : Value} (hk : knd.is k v = true) (hs : v.scannable = true) (new : ¬ k ∈ ks) (room : ks.length + 1 < scanBound) :
    ∃ js, js.Perm (k :: ks) ∧ Tab knd (layNew t es (knd.hash k) v).1 (layNew t es (knd.hash k) v).2.1 js := by
  have p := layNew_perm t es (knd.hash k) v
  rw [Array.toList_push] at p
  have p2 := p.trans (List.perm_append_singleton _ _)
  obtain ⟨js, q, r⟩ := paired_perm p2 (ks := k :: ks) (.cons ⟨hk, rfl, hs⟩ T.ent)
  refine ⟨js, q, r, q.nodup_iff.mpr (List.nodup_cons.mpr ⟨new, T.once⟩), ?_, layNew_fits t es _ v, layNew_ris t es _ v T.ris, T.led.imp id fun z => (layNew_led t es _ v).trans z⟩
  rw [← Array.length_toList, p2.length_eq, List.length_cons, Array.length_toList, T.size]
  exact room
theorem Tab.plainOff {es : Array (Int × Value)} {t : SetTable} {ks : List κ} (T : Tab knd es t ks) : Tab knd es { t with plain := false } ks := ⟨T.ent, T.once, T.few, SetTable.fits_plain_off T.fits, T.ris, T.led⟩
/-- the set at a has the keys ks -/
def Bag (knd : KeyKind P w κ) (h : Heap) (a : Addr) (ks : List κ) : Prop := ∃ o es ep t, h.get? a = some o ∧ o.ExactSet ∧ o.data = .set es ep t ∧ Tab knd es t ks
theorem Bag.at {h h' : Heap} {a : Addr} {ks : List κ} (B : Bag knd h a ks) (k : ∀ o, h.get? a = some o → h'.get? a = some o) : Bag knd h' a ks := by
  obtain ⟨o, es, ep, t, e, r⟩ := B
  exact ⟨o, es, ep, t, k o e, r⟩
theorem Bag.setOf {h : Heap} {a : Addr} {ks : List κ} (B : Bag knd h a ks) : h.SetOf knd a (fun k => decide (k ∈ ks)) ks.length := by
  obtain ⟨o, es, ep, t, e, x, d, T⟩ := B
  exact ⟨o, es, ep, t, e, x, d, T.elems, fun k => by rw [decide_eq_true_eq]; exact ent_has T.ent k, T.few, T.fits, T.size⟩
variable {A : Around} {E : Value → Shared → Prop} {s : Shared}
/-- a table is written, and perhaps laid anew -/
theorem tab_put {a : Addr} {o : Obj} {es es1 : Array (Int × Value)} {ep : Nat} {t t1 : SetTable} {ks : List κ} {R : Option Bool → Shared → Prop} {g : Bool → Sem Unit} (hg : ∀ (b : Bool) (s : Shared) (Q : Unit → Shared → Prop), Q () s → wpAny (model P w) A (g b) Q E s)
    (ho : s.heap.get? a = some o) (hx : o.ExactSet) (hd : o.data = .set es ep t) (T : Tab knd es1 t1 ks) {c : Bool} (h : ∀ h' js, Heap.SameBut a s.heap h' → js.Perm ks → Bag knd h' a js → R (some true) { s with heap := h' }) :
    wpAny (model P w) A (do
      storeSet a es1 t1
      if c = true then do
        g (relayAll t1 es1 (SetTable.grown es1.size)).2.2
        storeSet a (relayAll t1 es1 (SetTable.grown es1.size)).1 (relayAll t1 es1 (SetTable.grown es1.size)).2.1
        pure (some true)
      else pure (some true)) R E s := by
  have one : ∀ {h : Heap} {o : Obj} {es es' : Array (Int × Value)} {ep : Nat} {t t' : SetTable}, h.get? a = some o → o.data = .set es ep t → (h.update a (Obj.putSet es' t')).get? a = some { o with data := .set es' (ep + 1) t' } := by
    intro h o es es' ep t t' e d
    have := Heap.get?_update_self (Obj.putSet es' t') e (by rw [putSet_of es' t' d]; rfl)
    rwa [putSet_of es' t' d] at this
  refine wpAny_bind (wpAny_storeSet_of ho hd ?_ (fits_of_scanBound T.few))
  have b1 := Heap.SameBut.update s.heap a (Obj.putSet es1 t1)
  have h1 := one (es' := es1) (t' := t1) ho hd
  cases c with
  | false => exact wpAny_pure (h _ ks b1 (.refl _) ⟨_, es1, _, t1, h1, hx, rfl, T⟩)
  | true =>
    obtain ⟨js, q, T2⟩ := T.again (SetTable.grown es1.size)
    refine wpAny_bind (hg _ _ _ (wpAny_bind (wpAny_storeSet_of h1 rfl ?_ (fits_of_scanBound T2.few))))
    exact wpAny_pure (h _ js (b1.trans (Heap.SameBut.update _ a _)) q ⟨_, _, _, _, one h1 rfl, hx, rfl, T2⟩)
/-- a.add(v) -/
theorem bag_add {a : Addr} {ks : List κ} {k : κ} {v : Value} {Q : Value → Shared → Prop} (B : Bag knd s.heap a ks) (hk : knd.is k v = true) (hs : v.scannable = true) (room : ks.length + 1 < scanBound)
    (h : ∀ h' js, Heap.SameBut a s.heap h' → Bag knd h' a js → (∀ j, j ∈ js ↔ j = k ∨ j ∈ ks) → Q .none { s with heap := h', toks := s.toks + 1 }) : wpAny (model P w) A (call (.builtin "set.add") [.ref a, v]) Q E s := by
  refine wpAny_call_entry F.slot_set_add B.setOf.typeIs F.entry_set_add ?_ (F.args_set_add_2 _ _)
  obtain ⟨o, es, ep, t, ho, hx, hd, T⟩ := B
  unfold Builtin.«set.add» Builtin.Frozenset.oneOther Builtin.Frozenset.addrOf setAdd
  simp only [List.isEmpty_nil, bind_assoc]
  refine wpAny_bind (wpAny_pure ?_)
  refine wpAny_bind (wpAny_pure (wpAny_bind (wpAny_holding (wpAny_bind (knd.pyHash hk ?_)))))
  unfold setAddHashed setAddHashedIn
  refine wpAny_holding (wpAny_bind (wpAny_setState_of ho hd T.fits ?_))
  dsimp only
  rw [byScan_of hs T.few T.elems]
  simp only [↓reduceIte]
  unfold setAddByScan
  refine wpAny_bind (wpAny_bind (wpAny_rule (wpAny_bind (wpAny_setScan_of hk ho hd T.fits T.elems ?_))))
  cases e : es.toList.findIdx? (fun e => knd.is k e.2) with
  | some j =>
    obtain ⟨hj, pj, _⟩ := List.findIdx?_eq_some_iff_getElem.mp e
    have m : k ∈ ks := (ent_has T.ent k).mpr ⟨_, List.getElem_mem hj, pj⟩
    exact wpAny_pure (wpAny_pure (wpAny_pure ⟨_, rfl, h s.heap ks (.refl _ _) ⟨o, es, ep, t, ho, hx, hd, T⟩ fun j => ⟨.inr, fun q => q.elim (fun z => z ▸ m) id⟩⟩))
  | none =>
    have new : ¬ k ∈ ks := fun z => by
      obtain ⟨x, m, q⟩ := (ent_has T.ent k).mp z
      have := List.findIdx?_eq_none_iff.mp e x m
      rw [q] at this
      cases this
    obtain ⟨js, q, T1⟩ := T.more hk hs new room
    dsimp only
    generalize layNew t es (knd.hash k) v = Z at T1 ⊢
    obtain ⟨es1, t1, dm, gv⟩ := Z
    dsimp only at T1 ⊢
    have done : ∀ h' is, Heap.SameBut a s.heap h' → is.Perm js → Bag knd h' a is → Q .none { s with heap := h', toks := s.toks + 1 } := fun h' is sb pm B => h h' is sb B fun j => by
      rw [(pm.trans q).mem_iff, List.mem_cons]
    refine wpAny_bind ?_
    have slip : ∀ {Q' : Unit → Shared → Prop} {s' : Shared}, Q' () s' → ∀ b, wpAny (model P w) A.in1 (match b with | true => rule "set.scan.the-table-gave-way" | false => pure ()) Q' E s' := fun q b => by
      cases b
      · exact wpAny_pure q
      · exact wpAny_rule q
    refine slip ?_ gv
    split
    · refine wpAny_bind ?_
      rw [hashByValue_scannable 8 hs]
      refine wpAny_pure ?_
      have T2 : Tab knd es1 (if plainKind v = true then t1 else { t1 with plain := false }) js := by
        split
        · exact T1
        · exact T1.plainOff
      refine tab_put (s := { s with toks := s.toks + 1 }) ?_ ho hx hd T2 ?_
      · exact fun b s Q q => slip q b
      · exact fun h' is sb pm B => wpAny_pure (wpAny_pure ⟨_, rfl, done h' is sb pm B⟩)
    · refine wpAny_bind (wpAny_pure ?_)
      simp only [↓reduceIte]
      refine tab_put (s := { s with toks := s.toks + 1 }) ?_ ho hx hd T1 ?_
      · exact fun b s Q q => slip q b
      · exact fun h' is sb pm B => wpAny_pure (wpAny_pure ⟨_, rfl, done h' is sb pm B⟩)
end
/-! sets of texts -/
def TxO (P : Program) (w : World) (a : Addr) (zs : List Str) : HO := .ext fun h => ∃ ks, Bag (PySem.strKind P w) h a ks ∧ ∀ k, k ∈ ks ↔ k ∈ zs
theorem txO_ok {P : Program} {w : World} {H : Hp} {h : Heap} {a : Addr} {ks zs : List Str} (B : Bag (PySem.strKind P w) h a ks) (e : ∀ k, k ∈ ks ↔ k ∈ zs) : ObjOk P w H h a (TxO P w a zs) :=
  ⟨⟨ks, B, e⟩, let ⟨o, _, _, _, h, _⟩ := B; ⟨o, h⟩, fun _ _ ⟨js, B, e⟩ k => ⟨js, B.at fun o q => k o q, e⟩⟩
theorem txO_get {X : Cx} {pins : List (Addr × Obj)} {σ : L2.St} {H : Hp} {s : Shared} {a : Addr} {zs : List Str} (I : Inv X pins σ H s) (e : H a = some (TxO X.prog X.w a zs)) : ∃ ks, Bag (PySem.strKind X.prog X.w) s.heap a ks ∧ ∀ k, k ∈ ks ↔ k ∈ zs := (I.hok a _ e).1
theorem once_le {ks zs : List Str} (nd : ks.Nodup) (h : ∀ k ∈ ks, k ∈ zs) : ks.length ≤ zs.length := by
  induction ks generalizing zs with
  | nil => exact Nat.zero_le _
  | cons k ks ih =>
    have ⟨n1, n2⟩ := List.nodup_cons.mp nd
    have m := h k List.mem_cons_self
    have := ih n2 (zs := zs.erase k) fun j hj => (List.mem_erase_of_ne (a := j) (b := k) (fun e : j = k => n1 (by rw [← e]; exact hj))).mpr (h j (List.mem_cons_of_mem _ hj))
    rw [List.length_erase_of_mem m] at this
    have := List.length_pos_of_mem m
    rw [List.length_cons]
    omega
theorem strs_of {out : List Value} {js : List Str} (p : Paired (fun v k => ∃ tk, v = Value.str k tk) out js) : StrsAre out js := by
  induction p with
  | nil => exact .nil
  | cons h _ ih =>
    obtain ⟨tk, rfl⟩ := h
    exact .cons _ _ ih
theorem str_scan {k : Str} {v : Value} (h : (∃ t, v = Value.str k t)) : v.scannable = true := by
  obtain ⟨t, rfl⟩ := h
  rfl
theorem str_is (P : Program) (w : World) (k : Str) (t : Tok) : (PySem.strKind P w).is k (.str k t) = true := by
  show (k == k) = true
  exact beq_self_eq_true k
section
variable {X : Cx} {pins : List (Addr × Obj)} {σ : L2.St} {H : Hp} {s : Shared}
/-- a text is put into the set at a -/
theorem tx_add {A : Around} {E : Value → Shared → Prop} {Q : Value → Shared → Prop} {a : Addr} {zs : List Str} {z : Str} {u : Value} (I : Inv X pins σ H s) (e : H a = some (TxO X.prog X.w a zs)) (r : RelV (.str z) u) (few : zs.length < 1000)
    (h : ∀ s', Inv X pins σ (upd H a (TxO X.prog X.w a (z :: zs))) s' → Q .none s') : wpAny (model X.prog X.w) A (call (.builtin "set.add") [.ref a, u]) Q E s := by
  obtain ⟨ks, B, m⟩ := txO_get I e
  obtain ⟨t, rfl⟩ := (show ∃ t, u = Value.str z t from r)
  have le : ks.length ≤ zs.length := once_le (let ⟨_, _, _, _, _, _, _, T⟩ := B; T.once) fun k hk => (m k).mp hk
  refine bag_add B (str_is X.prog X.w z t) rfl (by show ks.length + 1 < 4096; omega) fun h' js sb B2 q => ?_
  have there : ∃ o, h'.get? a = some o := let ⟨o, _, _, _, g, _⟩ := B2; ⟨o, g⟩
  refine h _ (I.write (e := a) (t' := s.toks + 1) (by rw [e]; trivial) (.inl rfl) (fun b o hb g => (sb.2 b hb).trans g) there (txO_ok B2 fun k => ?_))
  rw [q k, m k, List.mem_cons]
/-- sorted of a set of texts -/
def rSortedTx (P : Program) (w : World) : List V → Hp → VK → Prop := fun vs H Q => ∃ (a : Addr) (zs : List Str), vs = [V.ref a] ∧ H a = some (TxO P w a zs) ∧ zs.length < 64 ∧
  ∀ (ys : List Str) (p : Addr), ys.Nodup → sortedS ys = true → (∀ k, k ∈ ys ↔ k ∈ zs) → H p = none → Q (.ref p) (upd H p (.lst (ys.map V.str)))
theorem cr_sortedTx (hc : X.calm = true) : CallR X (.builtin "sorted") (rSortedTx X.prog X.w) := by
  intro pins s σ H xs us Q I r h
  obtain ⟨a, zs, rfl, e, few, q⟩ := h
  obtain ⟨u, rfl, rx⟩ := vals1 r
  cases (show u = Value.ref a from rx)
  obtain ⟨ks, ⟨o, es, ep, t, ho, hx, hd, T⟩, m⟩ := txO_get I e
  have le : ks.length < 64 := Nat.lt_of_le_of_lt (once_le T.once fun k hk => (m k).mp hk) few
  refine Calls.call_function_entry PyProof.Rows.kind_sorted PyProof.Rows.plain_sorted PyProof.Rows.entry_sorted (PyProof.Rows.args_sorted1 _) ?_
  unfold Builtin.«sorted»
  refine wpAny_bind (m := checkCount "sorted" 1 1 _) (wpAny_pure (wpAny_bind (collect_set (A := X.A.in1) (I.ok.hd hc) ⟨o, ho, hx.1, hd⟩ T.fits T.few T.ris T.led fun s1 out old _ gs os pm => ?_)))
  obtain ⟨js, pj, rj⟩ := paired_perm (R := fun v k => ∃ tk, v = Value.str k tk) (xs := es.toList.map (·.2)) (ks := ks) pm (by
    have : ∀ {l : List (Int × Value)} {ks : List Str}, Paired (Entry (PySem.strKind X.prog X.w)) l ks → Paired (fun v k => ∃ tk, v = Value.str k tk) (l.map (·.2)) ks := by
      intro l ks p
      induction p with
      | nil => exact .nil
      | cons h _ ih => exact .cons (Value.isStrOf_shape h.key) ih
    exact this T.ent)
  have S := strs_of rj
  have len : out.length = ks.length := by rw [Paired.length rj, pj.length_eq]
  have I1 : Inv X pins σ H s1 := I.call' (ch := []) os (Un.kept old) (I.hok.kept old) (by rw [gs]; exact I.bare) (fun b z => absurd z (by simp))
  refine wpAny_bind (wpAny_newList ?_ (by rw [len, sizeLine_eq]; omega))
  have at_ : (s1.heap.push (seqObj "list" out.toArray 0)).get? s1.heap.objs.size = some (seqObj "list" out.toArray 0) := Heap.get?_push_size _ rfl
  refine wpAny_bind (wpAny_holding (wpAny_call_entry PyProof.Rows.slot_list_sort ⟨_, at_, rfl⟩ PyProof.Rows.entry_list_sort (list_sort_treeK strKind_oneLt at_ S.keysOf (fun _ _ _ e => keyKind_strs (by rw [← e]; exact S)) (by rw [len]; exact le) ?_) (PyProof.Rows.args_list_sort _)))
  intro st p1 p2
  obtain ⟨ys, g1, g2, g3⟩ := sorted_out_str S p1 p2
  obtain ⟨ep2, at2⟩ := PyProof.Rows.sortedHeap_at (vs := out) (out := (arrOf st).map (·.2)) at_
  have mem : ∀ k, k ∈ ys ↔ k ∈ zs := fun k => by rw [g2.mem_iff, pj.mem_iff, m k]
  have once : ys.Nodup := g2.nodup_iff.mpr (pj.nodup_iff.mpr T.once)
  have small : (ys.map V.str).length ≤ sizeLine := by rw [List.length_map, g2.length_eq, pj.length_eq, sizeLine_eq]; omega
  have kept : ∀ b o, s1.heap.get? b = some o → (sortedHeap (s1.heap.push (seqObj "list" out.toArray 0)) s1.heap.objs.size out ((arrOf st).map (·.2))).get? b = some o := fun b o g => by
    have lt := Heap.lt_size g
    rw [PyProof.Rows.sortedHeap_old (Nat.ne_of_lt lt) (by rw [size_push']; exact Nat.lt_succ_of_lt lt)]
    exact Heap.get?_push_of_some _ g
  refine ⟨_, rfl, wpAny_pure ⟨_, rfl, .ref s1.heap.objs.size, upd H s1.heap.objs.size (.lst (ys.map V.str)), ?_, rfl, q ys _ once g3 mem (I1.hok.fresh (Nat.le_refl _))⟩⟩
  exact I1.laid (t' := s1.toks) kept (Nat.le_refl _) (show ObjOk X.prog X.w _ _ _ (.lst (ys.map V.str)) from ⟨small, ((arrOf st).map (·.2)).toList, ep2, vals_of_strs g1, by rw [Array.toArray_toList]; exact at2⟩)
end
end Toy

namespace Toy
open PySem PySem.Spec PyProof.Rows L2
/-! {el for t0 in i0 for t1 in i1}: a set of texts -/
abbrev twoFor (el t0 i0 t1 i1 : Expr) (sc : Scope) (p : Pos) : Expr := .SetComp el [⟨t0, i0, [], 0⟩, ⟨t1, i1, [], 0⟩] sc p
section
variable {P : Program} {w : World} {A : Around} {R : Result → Shared → Prop} {s : Shared} {el t0 i0 t1 i1 : Expr} {sc : Scope} {p : Pos} {it acc : Value} {env : Env}
theorem turn_outer : compTurn (twoFor el t0 i0 t1 i1 sc p) 0 it acc env = (do
    standAt i0.pos
    match ← pyNext it with
    | none => pure (.done .next)
    | some v =>
      letOwnedTupleGo t0 it v
      assign t0 env v
      let x ← eval i1 env
      standAt i1.pos
      let x ← foldedSetIterable i1 env x
      let _ ← runOwn (.compStart (twoFor el t0 i0 t1 i1 sc p) 1 (← holding [x] (pyIter x)) acc env) env
      again (.compLoop (twoFor el t0 i0 t1 i1 sc p) 0 it acc env)) := by first | rfl | (unfold compTurn; simp; rfl)
theorem turn_inner : compTurn (twoFor el t0 i0 t1 i1 sc p) 1 it acc env = (do
    standAt i1.pos
    match ← pyNext it with
    | none => pure (.done .next)
    | some v =>
      letOwnedTupleGo t1 it v
      assign t1 env v
      let x ← eval el env
      standAt el.pos
      let _ ← call (.builtin "set.add") [acc, x]
      again (.compLoop (twoFor el t0 i0 t1 i1 sc p) 1 it acc env)) := by first | rfl | (unfold compTurn; simp; rfl)
abbrev fails (P : Program) (w : World) (A : Around) (env : Env) (R : Result → Shared → Prop) : Value → Shared → Prop := notedBy (model P w) A env fun e s => R (.error e) s
abbrev less (Z : Nat → Shared → Prop) (n : Nat) (s : Shared) : Prop := ∃ m, m < n ∧ Z m s
theorem loop_outer (fold : ∀ x, foldedSetIterable i1 env x = pure x) (Z : Nat → Shared → Prop) (turn : ∀ n s, Z n s → wpAny (model P w) A (pyNext it) (fun r s => match r with
      | none => R (.ok .next) s
      | some v => wpAny (model P w) A (letOwnedTupleGo t0 it v) (fun _ s => wpAny (model P w) A (assign t0 env v) (fun _ s => wpAny (model P w) A (eval i1 env) (fun x s => wpAny (model P w) A (pyIter x) (fun j s =>
          codeAny (model P w) A (.compStart (twoFor el t0 i0 t1 i1 sc p) 1 j acc env) (fun r s => match r with | .ok _ => less Z n s | .error _ => False) s) (fails P w A env R) s) (fails P w A env R) s) (fails P w A env R) s) (fails P w A env R) s) (fails P w A env R) s)
    (n : Nat) (z : Z n s) : codeAny (model P w) A (.compLoop (twoFor el t0 i0 t1 i1 sc p) 0 it acc env) R s := by
  refine codeAny_loop rfl Z (fun n s z => ?_) n z
  show wpAny _ A ((compTurn (twoFor el t0 i0 t1 i1 sc p) 0 it acc env).onRaise (fun x => do noteFrame x env; theTreesLotGoes x)) _ _ s
  refine wpAny_noted ?_
  rw [turn_outer]
  refine wpAny_bind (wpAny_standAt (wpAny_bind (thn (turn n s z) fun r s1 q => ?_)))
  match r, q with
  | none, q => exact wpAny_pure q
  | some v, q => exact wpAny_bind (thn q fun _ _ q => wpAny_bind (thn q fun _ _ q => wpAny_bind (thn q fun x _ q => wpAny_bind (wpAny_standAt (wpAny_bind (wpAny_of_eq (fold x) (wpAny_bind (wpAny_holding (thn q fun j _ q => wpAny_bind (wpAny_runOwn (by
      rw [Around.mark_none]
      refine codeAny_mono q fun r _ q => ?_
      match r, q with
      | .ok _, q => first | exact wpAny_pure ⟨rfl, q⟩ | exact wpAny_bind (wpAny_pure (wpAny_pure ⟨rfl, q⟩))
      | .error _, q => exact q.elim)))))))))))
theorem loop_inner (Z : Nat → Shared → Prop) (turn : ∀ n s, Z n s → wpAny (model P w) A (pyNext it) (fun r s => match r with
      | none => R (.ok .next) s
      | some v => wpAny (model P w) A (letOwnedTupleGo t1 it v) (fun _ s => wpAny (model P w) A (assign t1 env v) (fun _ s => wpAny (model P w) A (eval el env) (fun x s =>
          wpAny (model P w) A (call (.builtin "set.add") [acc, x]) (fun _ s => less Z n s) (fails P w A env R) s) (fails P w A env R) s) (fails P w A env R) s) (fails P w A env R) s) (fails P w A env R) s)
    (n : Nat) (z : Z n s) : codeAny (model P w) A (.compLoop (twoFor el t0 i0 t1 i1 sc p) 1 it acc env) R s := by
  refine codeAny_loop rfl Z (fun n s z => ?_) n z
  show wpAny _ A ((compTurn (twoFor el t0 i0 t1 i1 sc p) 1 it acc env).onRaise (fun x => do noteFrame x env; theTreesLotGoes x)) _ _ s
  refine wpAny_noted ?_
  rw [turn_inner]
  refine wpAny_bind (wpAny_standAt (wpAny_bind (thn (turn n s z) fun r s1 q => ?_)))
  match r, q with
  | none, q => exact wpAny_pure q
  | some v, q => exact wpAny_bind (thn q fun _ _ q => wpAny_bind (thn q fun _ _ q => wpAny_bind (thn q fun x _ q => wpAny_bind (wpAny_standAt (wpAny_bind (thn q fun _ _ q => wpAny_pure ⟨rfl, q⟩))))))
theorem start_inner (h0 : codeAny (model P w) A (.compLoop (twoFor el t0 i0 t1 i1 sc p) 1 it acc env) R s)
    (h : wpAny (model P w) A (pyIter it) (fun j s => codeAny (model P w) A (.compLoop (twoFor el t0 i0 t1 i1 sc p) 1 j acc env) R s) (fails P w A env R) s) : codeAny (model P w) A (.compStart (twoFor el t0 i0 t1 i1 sc p) 1 it acc env) R s := by
  refine codeAny_of_tree ?_
  show wpAny _ _ ((compStart (twoFor el t0 i0 t1 i1 sc p) 1 it acc env).onRaise (fun x => do noteFrame x env; standAt theWindowsPlace)) _ _ s
  refine wpAny_notedAt ?_
  unfold compStart
  show wpAny _ _ (ask >>= _) _ _ s
  refine wpAny_bind (wpAny_askSetting (wpAny_ite ?_))
  split
  · first | exact wpAny_bind (wpAny_pure (wpAny_pure ⟨rfl, h0⟩)) | exact wpAny_pure ⟨rfl, h0⟩
  · refine wpAny_bind (wpAny_rule ?_)
    show wpAny _ _ (standAt i1.pos >>= _) _ _ s
    exact wpAny_bind (wpAny_standAt (wpAny_bind (thn h fun j _ q => wpAny_pure ⟨rfl, q⟩)))
end
section
variable {Y : Cx} {el t0 i0 t1 i1 : Expr} {sc : Scope} {p : Pos} {D : Addr} {vs vs1 : List Nat} {g g1 : TG} {te : TE} {wi wi1 : TI}
theorem calmly {α : Type} {t : Sem α} {Q Q' : α → Shared → Prop} {E : Value → Shared → Prop} {s : Shared} (hx : Y.xe = fun _ _ => False) (h : wpAny (model Y.prog Y.w) Y.A t Q Y.xe s) (k : ∀ a s, Q a s → Q' a s) : wpAny (model Y.prog Y.w) Y.A t Q' E s := by
  rw [hx] at h
  exact thnF h k
/-- what a turn of the second clause leads to -/
def Inner (P : Program) (w : World) (D : Addr) (g1 : TG) (te : TE) (vs1 : List Nat) (σ : L2.St) (J : It) (Nx : Hp → Prop) (H : Hp) : Prop := ∃ W : Nat → Nat → Hp → Prop, (∃ m, W 0 m H) ∧ ∀ j k H, W j k H →
  (J.stop j H ∧ Nx H) ∨ (J.go j H ∧ ∃ N : Hp → Prop, (∀ H', N H' → ∃ k', k' < k ∧ W (j + 1) k' H') ∧ ∀ x H', J.yld j H x H' → g1 x (wipe σ vs1) H' fun τ G => wipe τ vs1 = wipe σ vs1 ∧ te τ G fun y G2 =>
    ∃ (z : Str) (zs : List Str), y = .str z ∧ G2 D = some (TxO P w D zs) ∧ zs.length < 1000 ∧ N (upd G2 D (TxO P w D (z :: zs))))
theorem inner_run {pins : List (Addr × Obj)} {σ : L2.St} {H : Hp} {s : Shared} {J : It} {fp : List Addr} {it : Addr} {tn : Nat → Heap → Prop} {Nx : Hp → Prop} {Z : Shared → Prop} (hc : Y.calm = true) (hx : Y.xe = fun _ _ => False) (T : Turn Y.prog Y.w Y.K t1 J fp it tn) (pg : PG Y t1 g1) (pe : PE Y el te)
    (free : ∀ G : Hp, (∀ b ∈ fp, G b = none) → ∀ b ∈ fp, FpOk Y pins G b) (I : Inv Y pins σ H s) (st : tn 0 s.heap) (nf : ∀ b ∈ fp, H b = none) (h : Inner Y.prog Y.w D g1 te vs1 σ J Nx H) (fin : ∀ G s', Inv Y pins (wipe σ vs1) G s' → Nx G → Z s') :
    codeAny (model Y.prog Y.w) Y.A (.compStart (twoFor el t0 i0 t1 i1 sc p) 1 (.ref it) (.ref D) Y.env) (fun r s' => match r with | .ok _ => Z s' | .error _ => False) s := by
  obtain ⟨W, ⟨m, w0⟩, turn⟩ := h
  have loop : codeAny (model Y.prog Y.w) Y.A (.compLoop (twoFor el t0 i0 t1 i1 sc p) 1 (.ref it) (.ref D) Y.env) (fun r s' => match r with | .ok _ => Z s' | .error _ => False) s := by
    refine loop_inner (fun k s' => ∃ j G, Inv Y pins (wipe σ vs1) G s' ∧ tn j s'.heap ∧ (∀ b ∈ fp, G b = none) ∧ W j k G) ?_ m ⟨0, H, I.weak (wipe_length _ _) fun j v e => (wipe_some e).1, st, nf, w0⟩
    rintro k s2 ⟨j, G, I2, st2, n2, w2⟩
    rcases turn j k G w2 with ⟨stop, q⟩ | ⟨go, N, next, step⟩
    · refine thnF (T.done Y rfl rfl rfl hc j pins s2 _ G (fun _ _ => False) I2 (free G n2) st2 stop) ?_
      rintro r s3 ⟨rfl, I3⟩
      exact fin G s3 I3 q
    · refine thnF (T.item Y rfl rfl rfl hc j pins s2 _ G (fun _ _ => False) I2 (free G n2) st2 go) ?_
      rintro r s3 ⟨u, rfl, q3⟩
      refine thnF q3 ?_
      rintro _ s4 ⟨x, G4, I4, r4, y4, st4, n4⟩
      have I4' := I4.pinned (free G4 n4) (T.obj _ _ st4)
      refine calmly hx (pg.run _ s4 _ G4 x u _ I4' r4 (step x G4 y4)) ?_
      rintro _ s5 ⟨τ, G5, I5, e5, q5⟩
      refine calmly hx (pe.run _ s5 τ G5 _ I5 q5) ?_
      rintro v s6 ⟨y, G6, I6, r6, z, zs, rfl, at6, few, nx⟩
      refine tx_add I6 at6 r6 few fun s7 I7 => ?_
      obtain ⟨k', lt, w7⟩ := next _ nx
      have same : ∀ b ∈ fp, ∀ o, s4.heap.get? b = some o → s7.heap.get? b = some o ∧ (upd G6 D (TxO Y.prog Y.w D (z :: zs))) b = none := fun b hb o e => by
        have q := I7.pin (b, o) (List.mem_append_right _ (List.mem_append_right _ (mem_pinsAt hb e)))
        exact ⟨q.1, q.2.1⟩
      refine ⟨k', lt, j + 1, _, I7.unpinned.weak (by rw [← e5, wipe_length]) (fun j v e => by rw [← e5] at e; exact (wipe_some e).1), T.keep _ _ _ st4 fun b hb o e => (same b hb o e).1, fun b hb => ?_, w7⟩
      obtain ⟨o, e, _⟩ := T.obj _ _ st4 b hb
      exact (same b hb o e).2
  exact start_inner loop (T.self Y.A 0 _ _ _ st loop)
/-- the whole block -/
def Outer (P : Program) (w : World) (D : Addr) (g : TG) (wi1 : TI) (g1 : TG) (te : TE) (vs vs1 : List Nat) (σ : L2.St) (J : It) (Q : Hp → Prop) (H : Hp) : Prop := ∃ W : Nat → Nat → Hp → Prop, (∃ m, W 0 m H) ∧ ∀ i m H, W i m H →
  (J.stop i H ∧ Q H) ∨ (J.go i H ∧ ∃ N : Hp → Prop, (∀ H', N H' → ∃ m', m' < m ∧ W (i + 1) m' H') ∧ ∀ x H', J.yld i H x H' → g x (wipe σ vs) H' fun τ G => wipe τ vs = wipe σ vs ∧ wi1 τ G fun J1 G2 => Inner P w D g1 te vs1 τ J1 N G2)
theorem outer_run {σ : L2.St} {H : Hp} {s : Shared} {J : It} {fp : List Addr} {it : Addr} {tn : Nat → Heap → Prop} {Q : Hp → Prop} {R : Result → Shared → Prop} (hc : Y.calm = true) (hx : Y.xe = fun _ _ => False) (sub : ∀ i ∈ vs1, i ∈ vs) (fold : ∀ x, foldedSetIterable i1 Y.env x = pure x)
    (T : Turn Y.prog Y.w Y.K t0 J fp it tn) (pg : PG Y t0 g) (pi1 : PI Y t1 i1 wi1) (pg1 : PG Y t1 g1) (pe : PE Y el te) (free : ∀ G : Hp, (∀ b ∈ fp, G b = none) → ∀ b ∈ fp, FpOk Y [] G b)
    (I : Inv Y [] (wipe σ vs) H s) (st : tn 0 s.heap) (nf : ∀ b ∈ fp, H b = none) (h : Outer Y.prog Y.w D g wi1 g1 te vs vs1 σ J Q H) (fin : ∀ G s', Inv Y [] (wipe σ vs) G s' → Q G → R (.ok .next) s') :
    codeAny (model Y.prog Y.w) Y.A (.compLoop (twoFor el t0 i0 t1 i1 sc p) 0 (.ref it) (.ref D) Y.env) R s := by
  obtain ⟨W, ⟨m, w0⟩, turn⟩ := h
  refine loop_outer fold (fun m s' => ∃ i G, Inv Y [] (wipe σ vs) G s' ∧ tn i s'.heap ∧ (∀ b ∈ fp, G b = none) ∧ W i m G) ?_ m ⟨0, H, I, st, nf, w0⟩
  rintro m s2 ⟨i, G, I2, st2, n2, w2⟩
  rcases turn i m G w2 with ⟨stop, q⟩ | ⟨go, N, next, step⟩
  · refine thnF (T.done Y rfl rfl rfl hc i [] s2 _ G (fun _ _ => False) I2 (free G n2) st2 stop) ?_
    rintro r s3 ⟨rfl, I3⟩
    exact fin G s3 I3 q
  · refine thnF (T.item Y rfl rfl rfl hc i [] s2 _ G (fun _ _ => False) I2 (free G n2) st2 go) ?_
    rintro r s3 ⟨u, rfl, q3⟩
    refine thnF q3 ?_
    rintro _ s4 ⟨x, G4, I4, r4, y4, st4, n4⟩
    have I4' := I4.pinned (free G4 n4) (T.obj _ _ st4)
    refine calmly hx (pg.run _ s4 _ G4 x u _ I4' r4 (step x G4 y4)) ?_
    rintro _ s5 ⟨τ, G5, I5, e5, q5⟩
    refine calmly hx (pi1.run _ s5 τ G5 _ I5 q5) fun xv s6 q6 => calmly hx q6 ?_
    rintro _ s7 ⟨it1, fp1, tn1, J1, G7, rfl, I7, T1, st7, f7, q7⟩
    refine inner_run (Nx := N) hc hx T1 pg1 pe (fun G n b hb => ⟨n b hb, (f7 b hb).2⟩) I7 st7 (fun b hb => (f7 b hb).1) q7 ?_
    intro G8 s8 I8 nx
    obtain ⟨m', lt, w8⟩ := next _ nx
    have same : ∀ b ∈ fp, ∀ o, s4.heap.get? b = some o → s8.heap.get? b = some o ∧ G8 b = none := fun b hb o e => by
      have q := I8.pin (b, o) (List.mem_append_right _ (List.mem_append_right _ (mem_pinsAt hb e)))
      exact ⟨q.1, q.2.1⟩
    refine ⟨m', lt, i + 1, G8, (I8.unpinned (pins := [])).weak ?_ ?_, T.keep _ _ _ st4 fun b hb o e => (same b hb o e).1, fun b hb => ?_, w8⟩
    · rw [← e5, wipe_length, wipe_length]
    · intro j v e
      rw [← e5] at e
      obtain ⟨a1, a2⟩ := wipe_some e
      rw [wipe_out fun z => a2 (sub j z)]
      exact a1
    · obtain ⟨o, e, _⟩ := T.obj _ _ st4 b hb
      exact (same b hb o e).2
end
def tSc2 (P : Program) (w : World) (wi : TI) (g : TG) (wi1 : TI) (g1 : TG) (te : TE) (vs vs1 : List Nat) : TE := fun σ H Q => wi σ H fun J G => ∀ D, G D = none → Outer P w D g wi1 g1 te vs vs1 σ J (Q (.ref D)) (upd G D (TxO P w D []))
theorem tab_fresh (P : Program) (w : World) : Tab (PySem.strKind P w) (#[] : Array (Int × Value)) (.fresh 0 0 (!w.params.followText "set-order")) [] :=
  ⟨.nil, .nil, by decide, by rfl, by first | exact List.Pairwise.nil | exact ris_range 0 | decide, by
    cases h : w.params.followText "set-order" with
    | true => exact .inl rfl
    | false => exact .inr rfl⟩
section
variable {X : Cx} {el t0 i0 t1 i1 : Expr} {sc : Scope} {p : Pos} {wi wi1 : TI} {g g1 : TG} {te : TE} {own : List (Str × Nat)} {vs1 : List Nat}
/-- the block that such a comprehension runs in -/
abbrev blkOf (X : Cx) (s : Shared) (H : Hp) (sc : Scope) (C : Addr) (cl : List (Str × Addr)) (fp : List Addr) : Cx := X.blk s H sc (compEnvC sc cl C X.env) fp
theorem pe_sc2 (hc : X.calm = true) (nd : X.N.Nodup) (hi : PI X t0 i0 wi) (ok : BlkOk X.N X.env.scope sc own) (sub : ∀ i ∈ vs1, i ∈ own.map (·.2))
    (hg : ∀ s H C cl fp, PG (blkOf X s H sc C cl fp) t0 g) (hi1 : ∀ s H C cl fp, PI (blkOf X s H sc C cl fp) t1 i1 wi1) (hg1 : ∀ s H C cl fp, PG (blkOf X s H sc C cl fp) t1 g1) (he : ∀ s H C cl fp, PE (blkOf X s H sc C cl fp) el te)
    (f0 : ∀ x, foldedSetIterable i0 X.env x = pure x := by intro _; rfl) (f1 : ∀ env x, foldedSetIterable i1 env x = pure x := by intro _ _; rfl) :
    PE X (twoFor el t0 i0 t1 i1 sc p) (tSc2 X.prog X.w wi g wi1 g1 te (own.map (·.2)) vs1) := .mk fun pins s σ H Q I h => by
  have clo : ∀ y ∈ sc.names, y.2 = .free → ∃ c, X.env.cells.lookup y.1 = some c := fun y m e => (ok.free y m e).elim (fun k => I.ok.has _ (.inl k)) fun k => I.ok.has _ (.inr k)
  rw [PpSet.eval_SetComp]
  refine wpAny_comprehension_free (use := none) rfl f0 (closure_ok clo) ok.kind (fun y m e => by rw [ok.uniq y m, e]) (thn (hi.run pins s σ H _ I h) fun xv s1 q => thn q ?_)
  rintro _ s2 ⟨it, fp, tn, J, G, rfl, I2, T, st, foot, q⟩
  refine PpSet.newSet_ok (newEnv_comp ?_)
  obtain ⟨D, eD⟩ : ∃ D, s2.heap.objs.size = D := ⟨_, rfl⟩
  have free : G D = none := I2.hok.fresh (Nat.le_of_eq eD)
  have q := q D free
  let ob : Obj := { cls := .type "set", dict := none, data := .set #[] 0 (.fresh 0 0 (!X.w.params.followText "set-order")) }
  obtain ⟨s3, e3⟩ : ∃ s3 : Shared, s3 = { s2 with heap := s2.heap.push ob } := ⟨_, rfl⟩
  have top : (s2.heap.push ob).get? D = some ob := by rw [← eD]; exact Heap.get?_push_size _ rfl
  have I3 : Inv X pins σ (upd G D (TxO X.prog X.w D [])) s3 := by
    rw [e3]
    exact I2.laid (t' := s2.toks) (fun b o e => Heap.get?_push_of_some _ e) (Nat.le_of_eq eD) (txO_ok ⟨ob, _, _, _, top, ⟨rfl, rfl, rfl⟩, rfl, tab_fresh X.prog X.w⟩ fun k => Iff.rfl)
  have foot3 : ∀ b ∈ fp, FpOk X pins (upd G D (TxO X.prog X.w D [])) b ∧ b < s3.heap.objs.size := fun b m => by
    obtain ⟨o, e, _⟩ := T.obj _ _ st b m
    have lt : b < s2.heap.objs.size := Heap.lt_size e
    refine ⟨⟨?_, (foot b m).2⟩, ?_⟩
    · rw [upd_ne (by rw [← eD]; exact Nat.ne_of_lt lt)]
      exact (foot b m).1
    · rw [e3]
      show b < (s2.heap.push ob).objs.size
      rw [Heap.size_push]
      exact Nat.lt_succ_of_lt lt
  have I4 := block_start I3 ok nd foot3
  have s3h : s3.heap = s2.heap.push ob := by rw [e3]
  rw [eD]
  obtain ⟨C, eC⟩ : ∃ C, s3.heap.objs.size = C := ⟨_, rfl⟩
  obtain ⟨ce, ece⟩ : ∃ ce, ce = compEnvC sc (cellsFrom (s3.heap.objs.size + 1) sc.names (cloFrom X.env.cells sc.names [])) s3.heap.objs.size X.env := ⟨_, rfl⟩
  obtain ⟨s4, e4⟩ : ∃ s4 : Shared, s4 = { s3 with heap := pushCells (s3.heap.push { cls := .type "dict", data := .dict #[] }) sc.names } := ⟨_, rfl⟩
  have loc : ce.locals = s3.heap.objs.size := by rw [ece] <;> rfl
  have pg := hg s3 (upd G D (TxO X.prog X.w D [])) s3.heap.objs.size (cellsFrom (s3.heap.objs.size + 1) sc.names (cloFrom X.env.cells sc.names [])) fp
  have pi1 := hi1 s3 (upd G D (TxO X.prog X.w D [])) s3.heap.objs.size (cellsFrom (s3.heap.objs.size + 1) sc.names (cloFrom X.env.cells sc.names [])) fp
  have pg1 := hg1 s3 (upd G D (TxO X.prog X.w D [])) s3.heap.objs.size (cellsFrom (s3.heap.objs.size + 1) sc.names (cloFrom X.env.cells sc.names [])) fp
  have pe := he s3 (upd G D (TxO X.prog X.w D [])) s3.heap.objs.size (cellsFrom (s3.heap.objs.size + 1) sc.names (cloFrom X.env.cells sc.names [])) fp
  unfold blkOf at pg pi1 pg1 pe
  rw [← ece] at I4 pg pi1 pg1 pe
  rw [← e4] at I4
  have st4 : tn 0 s4.heap := T.keep _ _ _ st fun b _ o e => by
    rw [e4]
    refine pushCells_keeps _ _ _ _ (Heap.get?_push_of_some _ ?_)
    rw [s3h]
    exact Heap.get?_push_of_some _ e
  have loop : codeAny (model X.prog X.w) X.A (.compLoop (twoFor el t0 i0 t1 i1 sc p) 0 (.ref it) (.ref D) ce) (compPost (model X.prog X.w) X.A X.xe none (EP X pins σ Q) (.ref D) s3.heap.objs.size) s4 := by
    refine outer_run (Y := X.blk s3 (upd G D (TxO X.prog X.w D [])) sc ce fp) (Q := Q (.ref D)) hc rfl sub (f1 _) T pg pi1 pg1 pe (fun G n b m => ?_) I4 st4 (fun b m => (foot3 b m).1.1) q ?_
    · exact ⟨n b m, (I4.ok.exf b m).1, I4.ok.exfs b m, .inl m, fun x c e => (I4.ok.exf b m).2 x c e, fun p m => absurd (show p ∈ ([] : List (Addr × Obj)) ++ [] from m) (by simp)⟩
    · intro G5 s5 I5 q5
      have I6 : Inv X pins σ G5 s5 := I3.call' (ch := fp) I5.os I5.base I5.hok I5.bare fun b m => ⟨(foot3 b m).1.2.2.2.1, (foot3 b m).1.2.1, (foot3 b m).1.2.2.2.2.1, (foot3 b m).1.2.2.2.2.2⟩
      have gone : G5 s3.heap.objs.size = none := by
        have z : G5 ce.locals = none := I5.free
        rwa [loc] at z
      obtain ⟨m, hn, _⟩ := I5.loc
      have hn : s5.heap.Ns ce.locals m := hn
      rw [loc] at hn
      obtain ⟨a0, a1, a2, a3, a4, a5⟩ := I3.fpOk (Nat.le_refl _) gone
      exact ⟨m, hn, fun h' sb => ⟨.ref D, G5, I6.turned (t' := s5.toks) (fun b o nb e => (sb.2 b nb).trans e) a0 a1 a3 a4 a5, rfl, q5⟩⟩
  have fine := PpSet.codeAny_compStart_set loop (T.self X.A 0 _ _ _ st4 loop)
  rw [ece, e4, e3] at fine
  exact fine
end
end Toy

namespace Toy
open PySem PySem.Spec PyProof.Rows L2
/-! several dicts locked while an expression runs -/
def tLockN (t : TE) : Nat → TE
  | 0 => t
  | n + 1 => tLockE (tLockN t n)
theorem pe_lockN {X : Cx} {e : Expr} {t : TE} (h : PE X e t) : ∀ n, PE X e (tLockN t n)
  | 0 => h
  | n + 1 => pe_lock (pe_lockN h n)
def tLocks (t : TE) : TE := fun σ H Q => ∃ n, tLockN t n σ H Q
theorem pe_locks {X : Cx} {e : Expr} {t : TE} (h : PE X e t) : PE X e (tLocks t) := .mk fun pins s σ H Q I ⟨n, q⟩ => (pe_lockN h n).run pins s σ H Q I q
def unlocked (ds : List Addr) (H G : Hp) : Hp := fun b => if b ∈ ds then H b else G b
theorem locks_in {t : TE} {σ : L2.St} : ∀ {ds : List Addr} {ks : List (List (Key × V))} {H : Hp} {Q : VK}, ds.Nodup → Paired (fun d kvs => H d = some (.dK kvs)) ds ks →
    (∀ G, (∀ b, ¬ b ∈ ds → G b = H b) → Paired (fun d kvs => ∃ od, G d = some (.frz od (.dK kvs))) ds ks → t σ G fun v G' => (∀ b ∈ ds, G' b = G b) ∧ Q v (unlocked ds H G')) → tLockN t ds.length σ H Q
  | [], [], H, Q, _, _, k => by
    have q := k H (fun _ _ => rfl) .nil
    have e : (fun v G' => (∀ b ∈ ([] : List Addr), G' b = H b) ∧ Q v (unlocked [] H G')) = Q := by
      funext v G'
      have : unlocked [] H G' = G' := by funext b; unfold unlocked; simp
      rw [this]
      simp
    rw [e] at q
    exact q
  | d :: ds, kv :: ks, H, Q, nd, p, k => by
    cases p with
    | cons h1 h2 =>
      have ⟨n1, n2⟩ := List.nodup_cons.mp nd
      refine ⟨d, _, h1, True.intro, fun od => ?_⟩
      have off : ∀ b, b ∈ ds → b ≠ d := fun b m e => n1 (e ▸ m)
      refine locks_in n2 (ks := ks) ?_ fun G eq p2 => ?_
      · have : ∀ {ds : List Addr} {ks : List (List (Key × V))}, (∀ b ∈ ds, b ≠ d) → Paired (fun d kvs => H d = some (.dK kvs)) ds ks → Paired (fun x kvs => upd H d (.frz od (.dK kv)) x = some (.dK kvs)) ds ks := by
          intro ds ks o p
          induction p with
          | nil => exact .nil
          | cons h _ ih => exact .cons (by rw [upd_ne (o _ List.mem_cons_self)]; exact h) (ih fun b m => o b (List.mem_cons_of_mem _ m))
        exact this off h2
      · have gd : G d = some (.frz od (.dK kv)) := by rw [eq d n1]; exact upd_same
        have q := k G (fun b m => by
          rw [eq b fun z => m (List.mem_cons_of_mem _ z), upd_ne fun z : b = d => m (by rw [z]; exact List.mem_cons_self)]) (.cons ⟨od, gd⟩ p2)
        have e : (fun v G' => (∀ b ∈ d :: ds, G' b = G b) ∧ Q v (unlocked (d :: ds) H G')) = fun v G' => (∀ b ∈ ds, G' b = G b) ∧ (fun v H' => H' d = some (.frz od (.dK kv)) ∧ Q v (upd H' d (.dK kv))) v (unlocked ds (upd H d (.frz od (.dK kv))) G') := by
          funext v G'
          apply propext
          have e1 : unlocked ds (upd H d (.frz od (.dK kv))) G' d = G' d := by unfold unlocked; rw [if_neg n1]
          have e2 : upd (unlocked ds (upd H d (.frz od (.dK kv))) G') d (.dK kv) = unlocked (d :: ds) H G' := by
            funext b
            by_cases hb : b = d
            · subst hb
              rw [upd_same]
              unfold unlocked
              rw [if_pos List.mem_cons_self, h1]
            · rw [upd_ne hb]
              unfold unlocked
              by_cases m : b ∈ ds
              · rw [if_pos m, if_pos (List.mem_cons_of_mem _ m), upd_ne hb]
              · rw [if_neg m, if_neg fun z => (List.mem_cons.mp z).elim hb m]
          show _ ↔ (∀ b ∈ ds, G' b = G b) ∧ unlocked ds (upd H d (.frz od (.dK kv))) G' d = some (.frz od (.dK kv)) ∧ Q v (upd (unlocked ds (upd H d (.frz od (.dK kv))) G') d (.dK kv))
          rw [e1, e2, List.forall_mem_cons, gd]
          exact ⟨fun ⟨⟨a, b⟩, c⟩ => ⟨b, a, c⟩, fun ⟨b, a, c⟩ => ⟨⟨a, b⟩, c⟩⟩
        rw [e] at q
        exact q
theorem wipe_get (σ : L2.St) (k : Nat) : ∀ vs : List Nat, (wipe σ vs)[k]? = if k ∈ vs ∧ k < σ.length then some none else σ[k]?
  | [] => by simp [wipe]
  | v :: vs => by
    unfold wipe
    rw [List.getElem?_set, wipe_length, wipe_get σ k vs]
    by_cases h : v = k
    · subst h
      by_cases l : v < σ.length
      · simp [l]
      · simp [l]
    · have : ¬ k = v := fun e => h e.symm
      simp [h, this]
theorem wipe_set {σ : L2.St} {vs : List Nat} {i : Nat} {v : Option V} (m : i ∈ vs) : wipe ((wipe σ vs).set i v) vs = wipe σ vs := by
  apply List.ext_getElem?
  intro k
  rw [wipe_get, List.length_set, wipe_length, wipe_get]
  by_cases h : k ∈ vs ∧ k < σ.length
  · rw [if_pos h, if_pos h]
  · rw [if_neg h, if_neg h]
    by_cases e : i = k
    · subst e
      rw [List.getElem?_set]
      have : ¬ i < σ.length := fun l => h ⟨m, l⟩
      simp [this, wipe_length]
    · rw [List.getElem?_set_ne e, wipe_get, if_neg h]
/-! machines -/
/-- a turn as a dict -/
def tkv (row : List (Str × Int)) : List (Key × V) := row.map fun p => (Sum.inr p.1, V.int p.2)
structure Turns (ts : List (List (Str × Int))) : Prop where
  lo : 1 ≤ ts.length
  hi : ts.length ≤ 4
  row : ∀ r ∈ ts, 1 ≤ r.length ∧ r.length ≤ 15 ∧ (r.map (·.1)).Nodup ∧ ∀ p ∈ r, Name 8 p.1 ∧ 0 ≤ p.2 ∧ p.2 < ts.length
structure TurnsAt (H : Hp) (ta : Addr) (ds : List Addr) (ts : List (List (Str × Int))) : Prop where
  tup : H ta = some (.tup (ds.map V.ref))
  nd : ds.Nodup
  each : Paired (fun d r => H d = some (.dK (tkv r))) ds ts
theorem TurnsAt.same {H G : Hp} {ta : Addr} {ds : List Addr} {ts : List (List (Str × Int))} (t : TurnsAt H ta ds ts) (k : Same H G) : TurnsAt G ta ds ts :=
  ⟨k _ _ t.tup, t.nd, prd_imp t.each fun _ _ h => k _ _ h⟩
def keysOf (ts : List (List (Str × Int))) : List Str := (ts.map fun r => r.map (·.1)).flatten
theorem tkv_at {r : List (Str × Int)} {i : Nat} {k : Key} {v : V} (h : (tkv r)[i]? = some (k, v)) : ∃ p, r[i]? = some p ∧ k = Sum.inr p.1 ∧ v = .int p.2 := by
  unfold tkv at h
  rw [List.getElem?_map] at h
  cases e : r[i]? with
  | none => rw [e] at h; cases h
  | some p => rw [e] at h; cases h; exact ⟨p, rfl, rfl, rfl⟩
theorem tkv_len {r : List (Str × Int)} : (tkv r).length = r.length := List.length_map _
/-- {name for turn in turns for name in turn} -/
theorem keys_set {P : Program} {w : World} {K : PySem.W.Frag} {σ : L2.St} {H : Hp} {Q : VK} {a i j : Nat} {ta : Addr} {ds : List Addr} {ts : List (List (Str × Int))} (hσ : σ[a]? = some (some (.ref ta))) (T : TurnsAt H ta ds ts) (few : (keysOf ts).length ≤ 900) (li : i < σ.length) (lj : j < σ.length) (ij : i ≠ j)
    (k : ∀ D zs, H D = none → (∀ z, z ∈ zs ↔ z ∈ keysOf ts) → zs.length ≤ (keysOf ts).length → Q (.ref D) (upd H D (TxO P w D zs))) :
    tLockN (tSc2 P w (iTup K (tVar a)) (gName i) (iKeys (tVar i)) (gName j) (tVar j) [i, j] [j]) ds.length σ H Q := by
  have tds : ¬ ta ∈ ds := fun m => by
    obtain ⟨n, hn⟩ := List.getElem?_of_mem m
    obtain ⟨r, _, e⟩ := prd_at1 T.each hn
    rw [T.tup] at e; cases e
  refine locks_in T.nd (ks := ts.map tkv) ?_ fun G off fr => ?_
  · have : ∀ {ds : List Addr} {ts : List (List (Str × Int))}, Paired (fun d r => H d = some (.dK (tkv r))) ds ts → Paired (fun d kvs => H d = some (.dK kvs)) ds (ts.map tkv) := by
      intro ds ts p
      induction p with
      | nil => exact .nil
      | cons h _ ih => exact .cons h ih
    exact this T.each
  · have g0 : G ta = some (.tup (ds.map V.ref)) := by rw [off ta tds]; exact T.tup
    have len : ds.length = ts.length := Paired.length T.each
    refine ⟨_, hσ, ta, rfl, ⟨_, SqT.of g0⟩, fun D nD => ?_⟩
    have nta : ta ≠ D := ne_of_none g0 nD
    have nds : ∀ b ∈ ds, b ≠ D := fun b m e => by
      obtain ⟨n, hn⟩ := List.getElem?_of_mem m
      obtain ⟨kv, _, od, e2⟩ := prd_at1 fr hn
      rw [e, nD] at e2; cases e2
    refine ⟨fun n m G2 => m = ds.length - n ∧ n ≤ ds.length ∧ ∃ zs, G2 = upd G D (TxO P w D zs) ∧ (∀ z, z ∈ zs ↔ z ∈ keysOf (ts.take n)) ∧ zs.length = (keysOf (ts.take n)).length, ⟨ds.length, by simp, Nat.zero_le _, [], rfl, by simp [keysOf], by simp [keysOf]⟩, ?_⟩
    rintro n m G2 ⟨rfl, hn, zs, rfl, mem, lenz⟩
    have at_ : ∀ {zs}, SqT K (upd G D (TxO P w D zs)) ta (ds.map V.ref) := SqT.of ((upd_ne nta).trans g0)
    by_cases hlt : n < ds.length
    · right
      obtain ⟨d, hd⟩ : ∃ d, ds[n]? = some d := ⟨_, List.getElem?_eq_getElem hlt⟩
      obtain ⟨kv, hkv, od, ed⟩ := prd_at1 fr hd
      obtain ⟨r, hr, rfl⟩ : ∃ r, ts[n]? = some r ∧ tkv r = kv := by
        rw [List.getElem?_map] at hkv
        cases e : ts[n]? with
        | none => rw [e] at hkv; cases hkv
        | some r => rw [e] at hkv; exact ⟨r, rfl, Option.some.inj hkv⟩
      have nd := nds d (List.mem_of_getElem? hd)
      have tk : keysOf (ts.take (n + 1)) = keysOf (ts.take n) ++ r.map (·.1) := by
        unfold keysOf
        rw [List.take_add_one, hr]
        simp
      have tl : (keysOf (ts.take (n + 1))).length ≤ (keysOf ts).length := by
        unfold keysOf
        conv => rhs; rw [← List.take_append_drop (n + 1) ts]
        rw [List.map_append, List.flatten_append, List.length_append]
        exact Nat.le_add_right _ _
      refine ⟨⟨_, .ref d, at_, by rw [List.getElem?_map, hd]; rfl⟩, fun G3 => ∃ zs, G3 = upd G D (TxO P w D zs) ∧ (∀ z, z ∈ zs ↔ z ∈ keysOf (ts.take (n + 1))) ∧ zs.length = (keysOf (ts.take (n + 1))).length, fun G3 q => ⟨ds.length - (n + 1), by omega, rfl, hlt, q⟩, ?_⟩
      rintro x G3 ⟨rfl, e⟩
      have e := e _ at_
      rw [List.getElem?_map, hd] at e
      obtain rfl := Option.some.inj (show some (V.ref d) = some x from e)
      have wl : (wipe σ [i, j]).length = σ.length := wipe_length _ _
      refine ⟨wipe_set (by simp), ?_⟩
      refine ⟨_, List.getElem?_set_self (by rw [wl]; exact li), d, od, rfl, .inl ⟨tkv r, (upd_ne nd).trans ed, ?_⟩⟩
      refine ⟨fun p q G3 => q = r.length - p ∧ p ≤ r.length ∧ ∃ zs, G3 = upd G D (TxO P w D zs) ∧ (∀ z, z ∈ zs ↔ z ∈ keysOf (ts.take n) ++ (r.map (·.1)).take p) ∧ zs.length = (keysOf (ts.take n)).length + p, ⟨r.length, by simp, Nat.zero_le _, zs, rfl, by simpa using mem, by simpa using lenz⟩, ?_⟩
      rintro p q G3 ⟨rfl, hp, ys, rfl, mem2, len2⟩
      have fd : (upd G D (TxO P w D ys)) d = some (.frz od (.dK (tkv r))) := (upd_ne nd).trans ed
      by_cases hlp : p < r.length
      · right
        refine ⟨⟨fd, by rw [tkv_len]; exact hlp⟩, fun G4 => ∃ zs, G4 = upd G D (TxO P w D zs) ∧ (∀ z, z ∈ zs ↔ z ∈ keysOf (ts.take n) ++ (r.map (·.1)).take (p + 1)) ∧ zs.length = (keysOf (ts.take n)).length + (p + 1), fun G4 q => ⟨r.length - (p + 1), by omega, rfl, hlp, q⟩, ?_⟩
        rintro x G4 ⟨rfl, kk, v, e, rfl⟩
        obtain ⟨pr, e1, rfl, rfl⟩ := tkv_at e
        refine ⟨wipe_set (by simp), ?_⟩
        refine ⟨_, List.getElem?_set_self (by rw [wipe_length, List.length_set, wl]; exact lj), pr.1, ys, rfl, upd_same, ?_, pr.1 :: ys, by rw [upd_upd], fun z => ?_, ?_⟩
        · rw [len2]
          rw [tk, List.length_append, List.length_map] at tl
          omega
        · rw [List.mem_cons, mem2 z, List.take_add_one, List.getElem?_map, e1]
          simp only [List.mem_append, Option.map_some, Option.toList_some, List.mem_singleton]
          constructor
          · rintro (h | h | h)
            · exact .inr (.inr h)
            · exact .inl h
            · exact .inr (.inl h)
          · rintro (h | h | h)
            · exact .inr (.inl h)
            · exact .inr (.inr h)
            · exact .inl h
        · rw [List.length_cons, len2]; omega
      · left
        have : p = r.length := by omega
        subst this
        refine ⟨⟨fd, by rw [tkv_len]; exact Nat.le_refl _⟩, ys, rfl, fun z => ?_, ?_⟩
        · rw [mem2 z, tk, ← List.length_map (f := (·.1)), List.take_length]
        · rw [len2, tk, List.length_append, List.length_map]
    · left
      have : n = ds.length := by omega
      subst this
      rw [len, List.take_length] at mem lenz
      refine ⟨⟨_, at_, by rw [List.length_map]; exact Nat.le_refl _⟩, fun b m => upd_ne (nds b m), ?_⟩
      have eq : unlocked ds H (upd G D (TxO P w D zs)) = upd H D (TxO P w D zs) := by
        funext b
        unfold unlocked
        by_cases m : b ∈ ds
        · rw [if_pos m, upd_ne (nds b m)]
        · rw [if_neg m]
          by_cases hb : b = D
          · subst hb; rw [upd_same, upd_same]
          · rw [upd_ne hb, upd_ne hb, off b m]
      rw [eq]
      have hD : H D = none := by
        rw [← off D fun m => nds D m rfl]; exact nD
      exact k D zs hD mem (Nat.le_of_eq lenz)
/-- a Machine's attributes -/
def mfs (ta : Addr) (n : Int) (nv : V) : List (Str × V) := putF "names" nv (putF "states" (.int n) (putF "_turns" (.ref ta) []))
section
variable {ta : Addr} {n : Int} {nv : V}
theorem mfs_turns : (mfs ta n nv).lookup ("_turns" : Str) = some (.ref ta) := by unfold mfs; rw [lookup_putF, if_neg (by decide +kernel), lookup_putF, if_neg (by decide +kernel), lookup_putF, if_pos rfl]
theorem mfs_states : (mfs ta n nv).lookup ("states" : Str) = some (.int n) := by unfold mfs; rw [lookup_putF, if_neg (by decide +kernel), lookup_putF, if_pos rfl]
theorem mfs_names : (mfs ta n nv).lookup ("names" : Str) = some nv := by unfold mfs; rw [lookup_putF, if_pos rfl]
theorem mfs_no {m : Str} (h1 : ¬ m = "names") (h2 : ¬ m = "states") (h3 : ¬ m = "_turns") : (mfs ta n nv).lookup m = none := by unfold mfs; rw [lookup_putF, if_neg h1, lookup_putF, if_neg h2, lookup_putF, if_neg h3]; rfl
end
structure Mc where
  ts : List (List (Str × Int))
  ns : List Str
structure McOk (M : Mc) : Prop where
  ts : Turns M.ts
  srt : sortedS M.ns = true
  nd : M.ns.Nodup
  mem : ∀ z, z ∈ M.ns ↔ z ∈ keysOf M.ts
structure McAt (C : Addr) (H : Hp) (m : Addr) (M : Mc) : Prop where
  ex : ∃ (dx ta na : Addr) (ds : List Addr), H m = some (.ins C dx (mfs ta M.ts.length (.ref na))) ∧ TurnsAt H ta ds M.ts ∧ H na = some (.tup (M.ns.map V.str))
theorem McAt.same {C : Addr} {H G : Hp} {m : Addr} {M : Mc} (A : McAt C H m M) (k : Same H G) : McAt C G m M := by
  obtain ⟨dx, ta, na, ds, h1, h2, h3⟩ := A.ex
  exact ⟨dx, ta, na, ds, k _ _ h1, h2.same k, k _ _ h3⟩
def spIsTurn : Sp := fun vs H Q _ => ∃ (d : Addr) (r : List (Str × Int)) (n : Int), vs = [.ref d, .int n] ∧ H d = some (.dK (tkv r)) ∧ 1 ≤ r.length ∧ r.length ≤ 15 ∧ (r.map (·.1)).Nodup ∧ (∀ p ∈ r, Name 8 p.1 ∧ 0 ≤ p.2 ∧ p.2 < n) ∧ ∀ G, Same H G → Q (.bl true) G
def spIsTurns : Sp := fun vs H Q _ => ∃ (ta : Addr) (ds : List Addr) (ts : List (List (Str × Int))), vs = [.ref ta] ∧ TurnsAt H ta ds ts ∧ Turns ts ∧ ∀ G, Same H G → Q (.bl true) G
def spMachine (C : Addr) : Sp := fun vs H Q _ => ∃ (p dx ta : Addr) (ds : List Addr) (ts : List (List (Str × Int))), vs = [.ref p, .ref ta] ∧ H p = some (.ins C dx []) ∧ TurnsAt H ta ds ts ∧ Turns ts ∧
  ∀ M G, McOk M → M.ts = ts → McAt C G p M → (∀ b o, b ≠ p → H b = some o → G b = some o) → Q .non G
def spTurnsP (C : Addr) : Sp := fun vs H Q _ => ∃ (p : Addr) (M : Mc), vs = [.ref p] ∧ McAt C H p M ∧ McOk M ∧ ∀ ta ds G, Same H G → TurnsAt G ta ds M.ts → (∀ d ∈ ds, H d = none) → Q (.ref ta) G
theorem Turns.few {ts : List (List (Str × Int))} (T : Turns ts) : (keysOf ts).length ≤ 60 := by
  unfold keysOf
  rw [List.length_flatten, List.map_map]
  have h := T.hi
  have hr := T.row
  have : ∀ l : List (List (Str × Int)), (∀ r ∈ l, r ∈ ts) → (l.map (List.length ∘ fun r => r.map (·.1))).sum ≤ 15 * l.length := by
    intro l
    induction l with
    | nil => intro _; simp
    | cons r l ih =>
      intro m
      have a := (hr r (m r List.mem_cons_self)).2.1
      have b := ih fun x hx => m x (List.mem_cons_of_mem _ hx)
      simp only [List.map_cons, List.sum_cons, Function.comp, List.length_map, List.length_cons] at b ⊢
      omega
  have := this ts fun _ h => h
  omega
theorem tkv_val {r : List (Str × Int)} (nd : (r.map (·.1)).Nodup) {p : Str × Int} (m : p ∈ r) : valV (tkv r) (.inr p.1 : Key) = some (.int p.2) := by
  have nd2 : ((tkv r).map (·.1)).Nodup := by
    unfold tkv
    rw [List.map_map, show ((fun x : Key × V => x.1) ∘ fun p : Str × Int => ((Sum.inr p.1 : Key), V.int p.2)) = (Sum.inr ∘ fun p : Str × Int => p.1) from rfl, ← List.map_map]
    exact nd.map _ fun a b h e => h (Sum.inr.inj e)
  have mm : ((Sum.inr p.1 : Key), V.int p.2) ∈ tkv r := List.mem_map.mpr ⟨p, m, rfl⟩
  have := find_self nd2 _ mm
  show ((tkv r).find? fun q => decide (q.1 = (Sum.inr p.1 : Key))).map (·.2) = _
  rw [this]; rfl
theorem tkv_none {r : List (Str × Int)} {z : Str} (h : ¬ z ∈ r.map (·.1)) : valV (tkv r) (.inr z : Key) = none := by
  have : (tkv r).find? (fun q => decide (q.1 = (Sum.inr z : Key))) = none := by
    rw [List.find?_eq_none]
    intro q hq
    unfold tkv at hq
    obtain ⟨p, hp, rfl⟩ := List.mem_map.mp hq
    simp only [decide_eq_true_eq]
    intro e
    exact h (List.mem_map.mpr ⟨p, hp, Sum.inr.inj e⟩)
  show ((tkv r).find? fun q => decide (q.1 = (Sum.inr z : Key))).map (·.2) = none
  rw [this]; rfl
theorem tkv_some {r : List (Str × Int)} {z : Str} : (valV (tkv r) (.inr z : Key)).isSome = true ↔ z ∈ r.map (·.1) := by
  constructor
  · intro h
    refine Classical.byContradiction fun n => ?_
    rw [tkv_none n] at h
    cases h
  · intro h
    by_cases nd : True
    · obtain ⟨p, hp, rfl⟩ := List.mem_map.mp h
      show (((tkv r).find? fun q => decide (q.1 = (Sum.inr p.1 : Key))).map (·.2)).isSome = true
      rw [Option.isSome_map, List.find?_isSome]
      exact ⟨(Sum.inr p.1, .int p.2), List.mem_map.mpr ⟨p, hp, rfl⟩, by simp⟩
    · exact absurd True.intro nd
/-- several new dicts in a row -/
theorem paired_snoc_at {H G : Hp} {ds : List Addr} {ts : List (List (Str × Int))} (p : Paired (fun d r => H d = some (.dK (tkv r))) ds ts) (k : ∀ d ∈ ds, ∀ o, H d = some o → G d = some o) : Paired (fun d r => G d = some (.dK (tkv r))) ds ts := by
  induction p with
  | nil => exact .nil
  | cons h _ ih => exact .cons (k _ List.mem_cons_self _ h) (ih fun d m => k d (List.mem_cons_of_mem _ m))
/-- one of some texts -/
def isOne (zs : List Str) : V → Bool
  | .str z => decide (z ∈ zs)
  | _ => false
end Toy

namespace Toy
open PySem PySem.Spec PyProof.Rows L2
/-! properties of own classes in a head's facts -/
/-- the class C has f as a property whose getter is the def st -/
structure PropAt (K : PySem.W.Frag) (C : Addr) (f qual : Str) (st : Stmt) : Prop where
  h : ∃ (p g : Addr) (fd : FuncData), PropOf K C f p g ∧ Fun K f qual st g fd ∧ Binds K fd ["self"] []
structure PrD where
  cls : Str
  d : He.DefD
def PrD.at_ (K : PySem.W.Frag) (q : PrD) : Addr := He.ma K (He.ga K q.cls) q.d.name
def PrD.getter (K : PySem.W.Frag) (q : PrD) : Addr := match PySem.W.recIn K (q.at_ K) "property" with
  | some (.ref g :: _) => g
  | _ => 0
def fnAt (K : PySem.W.Frag) (g : Addr) : He.FnW := match K.lookup g with
  | some ⟨_, _, .func x, _⟩ => some (x.name, x.qualname, x.params, x.body, x.scope, x.globals, x.closure, x.builtins)
  | _ => none
def plainFn (K : PySem.W.Frag) (g : Addr) (qual : Str) : Bool := PySem.W.keepIn K (.ref g) && match K.lookup g with
  | some ⟨_, _, .func x, _⟩ => PySem.W.codeIn K x.code qual && (He.dflB K x.defaults [] && He.kwdB K x.kwdefaults [])
  | _ => false
def PrD.ok (K : PySem.W.Frag) (q : PrD) : Bool := plainFn K (q.getter K) q.d.qual && (decide (PySem.W.findIn K (.ref (He.ga K q.cls)) q.d.name = some (some (.ref (q.at_ K)))) && (decide (PySem.W.specialIn K (.ref (q.at_ K)) "__get__" = some (some (.builtin "property.__get__"))) &&
  (decide (PySem.W.takesIn K (.ref (q.at_ K)) = some true) && match PySem.W.recIn K (q.at_ K) "property" with
    | some (.ref _ :: _) => true
    | _ => false)))
theorem fnAt_fun {K : PySem.W.Frag} {g : Addr} {d : He.DefD} (e : fnAt K g = d.val) (c : plainFn K g d.qual = true) : ∃ fd, FunD K d.name d.qual d.params d.body d.scope [] [] g fd := by
  obtain ⟨keep, c⟩ := Bool.and_eq_true_iff.mp c
  cases l : K.lookup g with
  | none => rw [l] at c; cases c
  | some o =>
    obtain ⟨oc, od, dt, osl⟩ := o
    unfold fnAt at e
    rw [l] at c e
    cases dt with
    | func x =>
      obtain ⟨nm, ql, pm, bd, sp, gl, cl, df, kd, a1, a2, a3, cd, a4, bu⟩ := x
      have e : (some (nm, ql, pm, bd, sp, gl, cl, bu) : He.FnW) = some (d.name, d.qual, d.params, .stmts d.body, d.scope, mainGlobals, [], builtinsNs) := e
      simp only [Option.some.injEq, Prod.mk.injEq] at e
      obtain ⟨rfl, rfl, rfl, rfl, rfl, rfl, rfl, rfl⟩ := e
      obtain ⟨c1, c2⟩ := Bool.and_eq_true_iff.mp c
      obtain ⟨c2, c3⟩ := Bool.and_eq_true_iff.mp c2
      exact ⟨_, ⟨oc, od, df, kd, a1, a2, a3, cd, a4, osl, rfl, l, c1, He.dflB_ok c2, He.kwdB_ok c3⟩, keep⟩
    | _ => cases c
theorem prD_ok {K : PySem.W.Frag} {q : PrD} (e : fnAt K (q.getter K) = q.d.val) (c : q.ok K = true) : ∃ fd, PropOf K (He.ga K q.cls) q.d.name (q.at_ K) (q.getter K) ∧ FunD K q.d.name q.d.qual q.d.params q.d.body q.d.scope [] [] (q.getter K) fd := by
  obtain ⟨c1, c⟩ := Bool.and_eq_true_iff.mp c
  obtain ⟨c2, c⟩ := Bool.and_eq_true_iff.mp c
  obtain ⟨c3, c⟩ := Bool.and_eq_true_iff.mp c
  obtain ⟨c4, c5⟩ := Bool.and_eq_true_iff.mp c
  obtain ⟨fd, F⟩ := fnAt_fun e c1
  refine ⟨fd, ⟨of_decide_eq_true c2, of_decide_eq_true c3, of_decide_eq_true c4, ?_⟩, F⟩
  unfold PrD.getter
  split at c5
  · rename_i g rest h
    rw [h]
    exact ⟨rest, rfl⟩
  · cases c5
/-! a head that asks a flag, and getters -/
abbrev AlP : Type := He.AlD × Bool × List He.FnW
def obsP (fa : List He.Fa) (fn : List He.DefD) (b : PySem.W.Frag → Bool) (pr : List PrD) (K : PySem.W.Frag) : AlP := (He.obsD fa fn K, b K && pr.all fun q => q.ok K, pr.map fun q => fnAt K (q.getter K))
def obsPG (n : Nat) (fa : List He.Fa) (fn : List He.DefD) (b : PySem.W.Frag → Bool) (pr : List PrD) (g : Addr → Option Obj) : AlP := obsP fa fn b pr (He.frG g (He.asD g n))
structure HasP (b : PySem.W.Frag → Bool) (pr : List PrD) (K : PySem.W.Frag) : Prop where
  flag : b K = true
  ok : (pr.all fun q => q.ok K) = true
  val : (pr.map fun q => fnAt K (q.getter K)) = pr.map fun q => q.d.val
def hookP (n : Nat) (fa : List He.Fa) (fn : List He.DefD) (b : PySem.W.Frag → Bool) (pr : List PrD) : PySem.W.Hook where
  α := AlP
  obs := fun s => obsPG n fa fn b pr s.heap.get?
  val := fun _ => (He.valD fn, true, pr.map fun q => q.d.val)
  says := fun _ h => ∃ K : PySem.W.Frag, K.In h ∧ He.SaysD fa fn K ∧ HasP b pr K
  of := fun _ _ e => ⟨_, He.frG_in, congrArg (fun z : AlP => z.1) e, by
    have two := Bool.and_eq_true_iff.mp (congrArg (fun z : AlP => z.2.1) e)
    exact ⟨two.1, two.2, congrArg (fun z : AlP => z.2.2) e⟩⟩
  keeps := fun _ _ _ ⟨K, hK, c, e⟩ k => ⟨K, PySem.W.Frag.In.keeps hK k, c, e⟩
theorem obsPG_eq {n : Nat} {fa : List He.Fa} {fn : List He.DefD} {b : PySem.W.Frag → Bool} {pr : List PrD} {g : Addr → Option Obj} {s : Shared} (h : ∀ a, g a = s.heap.get? a) : obsPG n fa fn b pr g = (hookP n fa fn b pr).obs s := by
  have e : g = s.heap.get? := funext h
  rw [e] <;> rfl
/-- a head's run is looked at part by part (each needs less room) -/
theorem run_parts {S σ γ ε : Type} {X : Option S} {l : S → Bool} {sn : S → σ} {g : σ} {A B D : S → Bool} {C : S → γ} {c : γ} {E : S → ε} {e : ε} (h1 : X.map (fun s => (l s, sn s)) = some (true, g)) (hA : X.map A = some true) (hB : X.map B = some true) (hC : X.map (fun s => (C s, D s, E s)) = some (c, true, e)) :
    X.map (fun s => (l s, sn s, ((A s && B s, C s), D s, E s))) = some (true, g, ((true, c), true, e)) := by
  cases X with
  | none => cases h1
  | some s =>
    simp only [Option.map_some, Option.some.injEq, Prod.mk.injEq] at h1 hA hB hC ⊢
    obtain ⟨a1, a2⟩ := h1
    obtain ⟨c1, c2, c3⟩ := hC
    exact ⟨a1, a2, ⟨by rw [hA, hB]; rfl, c1⟩, c2, c3⟩
theorem HasP.prop {b : PySem.W.Frag → Bool} {pr : List PrD} {K : PySem.W.Frag} (P : HasP b pr K) (i : Nat) {q : PrD} (h : pr[i]? = some q) : ∃ fd, PropOf K (He.ga K q.cls) q.d.name (q.at_ K) (q.getter K) ∧ FunD K q.d.name q.d.qual q.d.params q.d.body q.d.scope [] [] (q.getter K) fd := by
  refine prD_ok ?_ (List.all_eq_true.mp P.ok q (List.mem_of_getElem? h))
  have e : (pr.map fun q => fnAt K (q.getter K))[i]? = (pr.map fun q => q.d.val)[i]? := by rw [P.val]
  rw [List.getElem?_map, List.getElem?_map, h] at e
  exact Option.some.inj e
section
variable {P : Program} {w : World} {K : PySem.W.Frag} {mg : Str → Option Value} {base : Heap}
def OkP (P : Program) (w : World) (K : PySem.W.Frag) (mg : Str → Option Value) (base : Heap) (k : Nat) (C : Addr) (f : Str) (sp : Sp) : Prop := ∃ (p g : Addr) (fd : FuncData), PropOf K C f p g ∧ Binds K fd ["self"] [] ∧ FnOk P w K mg base CX0 k g fd ["self"] sp
theorem okP_of {C : Addr} {m q : Str} {st : Stmt} {N : List Str} {k : Nat} {sp : Sp} (D : PropAt K C m q st) (S : FnScope N ["self"] (defScope st)) (len : ∀ vs H Q E, sp vs H Q E → vs.length = (["self"] : List Str).length)
    (body : ∀ (f : Addr) (cd : Value) (A : Around) (out : List Env) (s : Shared) (H : Hp) (vs : List V) (Q : VK) (E : XK), Room k (A.deeper (envOfC q (defScope st) s.heap.objs.size f cd)) → sp vs H Q E →
      ∃ t, PSs (cxOf CX0 P w K mg base N q (defScope st) f cd A out s H E).nox (defBody st) t ∧ t { nx := fun _ G => Q .non G, rt := Q } (start N vs) H) : OkP P w K mg base (k + 1) C m sp := by
  obtain ⟨p, g, fd, pr, F, b⟩ := D.h
  exact ⟨p, g, fd, pr, b, F.ok S len fun cd A out s H vs Q E hr h => body g cd A out s H vs Q E hr h⟩
end
end Toy

namespace Toy
open PySem PySem.Spec PyProof.Rows L2
/-! sorted texts are told by their members -/
def leT (a b : Str) : Prop := ltCps b.cps.toList a.cps.toList = false
theorem leT_iff {a b : Str} : leT a b ↔ a.cps.toList ≤ b.cps.toList := by
  unfold leT
  rw [ltCps_eq, decide_eq_false_iff_not]
  exact List.not_lt
theorem leT_trans {a b c : Str} (h : leT a b) (k : leT b c) : leT a c := leT_iff.mpr (List.le_trans (leT_iff.mp h) (leT_iff.mp k))
theorem leT_antisymm {a b : Str} (h : leT a b) (k : leT b a) : a = b := by
  have e := List.le_antisymm (leT_iff.mp h) (leT_iff.mp k)
  have e2 : a.cps = b.cps := Array.toList_inj.mp e
  cases a; cases b; exact congrArg Str.mk e2
theorem rising_pw : ∀ {r : List Str} {p : Str}, risingS p r = true → (∀ x ∈ r, leT p x) ∧ r.Pairwise leT
  | [], _, _ => ⟨by simp, .nil⟩
  | x :: r, p, h => by
    obtain ⟨h1, h2⟩ := Bool.and_eq_true_iff.mp (show (!ltCps x.cps.toList p.cps.toList && risingS x r) = true from h)
    obtain ⟨k1, k2⟩ := rising_pw h2
    have hp : leT p x := by
      unfold leT
      revert h1
      cases ltCps x.cps.toList p.cps.toList <;> simp
    refine ⟨fun y m => ?_, List.pairwise_cons.mpr ⟨k1, k2⟩⟩
    rcases List.mem_cons.mp m with rfl | m
    · exact hp
    · exact leT_trans hp (k1 y m)
theorem sorted_pw : ∀ {l : List Str}, sortedS l = true → l.Pairwise leT
  | [], _ => .nil
  | x :: r, h => List.pairwise_cons.mpr (rising_pw h)
theorem leT_refl (a : Str) : leT a a := leT_iff.mpr (List.le_refl _)
theorem pw_uniq : ∀ {l k : List Str}, l.Pairwise leT → k.Pairwise leT → l.Perm k → l = k
  | [], k, _, _, p => (List.nil_perm.mp p).symm
  | a :: l, [], _, _, p => by have := p.length_eq; simp at this
  | a :: l, b :: k, h1, h2, p => by
    obtain ⟨a1, a2⟩ := List.pairwise_cons.mp h1
    obtain ⟨b1, b2⟩ := List.pairwise_cons.mp h2
    have ab : leT a b := by
      rcases List.mem_cons.mp (p.mem_iff.mpr List.mem_cons_self) with e | m
      · rw [e]; exact leT_refl _
      · exact a1 b m
    have ba : leT b a := by
      rcases List.mem_cons.mp (p.mem_iff.mp List.mem_cons_self) with e | m
      · rw [e]; exact leT_refl _
      · exact b1 a m
    obtain rfl := leT_antisymm ab ba
    rw [pw_uniq a2 b2 (List.perm_cons _ |>.mp p)]
theorem sorted_uniq {l k : List Str} (h1 : sortedS l = true) (h2 : sortedS k = true) (p : l.Perm k) : l = k := pw_uniq (sorted_pw h1) (sorted_pw h2) p
/-- the names of a turn, in order -/
noncomputable def srtN (r : List (Str × Int)) : List Str := open Classical in if h : ∃ ys : List Str, ys.Perm (r.map (·.1)) ∧ sortedS ys = true then Classical.choose h else []
theorem srtN_eq {r : List (Str × Int)} {ys : List Str} (p : ys.Perm (r.map (·.1))) (s : sortedS ys = true) : ys = srtN r := by
  have h : ∃ ys : List Str, ys.Perm (r.map (·.1)) ∧ sortedS ys = true := ⟨ys, p, s⟩
  unfold srtN
  rw [dif_pos h]
  obtain ⟨q1, q2⟩ := Classical.choose_spec h
  exact sorted_uniq s q2 (p.trans q1.symm)
/-! a loop over a list within a comprehension -/
theorem it_list {K : PySem.W.Frag} {a : Addr} {xs : List V} {g : TG} {σ0 : L2.St} {B : L2.St → Hp → (Hp → Prop) → Prop} {Hs : Hp} {Qd : Hp → Prop} (Pv : Nat → Hp → Prop) (h0 : Pv 0 Hs) (hl : ∀ i H, i ≤ xs.length → Pv i H → SqL K H a xs)
    (hs : ∀ i x H, xs[i]? = some x → Pv i H → g x σ0 H fun σ2 H2 => B σ2 H2 (Pv (i + 1))) (hd : ∀ H, Pv xs.length H → Qd H) :
    ∃ W : Nat → Nat → Hp → Prop, (∃ m, W 0 m Hs) ∧ ∀ i m H, W i m H →
      ((Itl K a).stop i H ∧ Qd H) ∨ ((Itl K a).go i H ∧ ∃ Nx : Hp → Prop, (∀ H', Nx H' → ∃ m', m' < m ∧ W (i + 1) m' H') ∧ ∀ x H', (Itl K a).yld i H x H' → g x σ0 H' fun σ2 H2 => B σ2 H2 Nx) := by
  refine ⟨fun n left G => left + n = xs.length ∧ Pv n G, ⟨xs.length, Nat.add_zero _, h0⟩, fun n left G h => ?_⟩
  obtain ⟨sum, here⟩ := h
  have stands := hl n G (by omega) here
  cases left with
  | zero =>
    obtain rfl : xs.length = n := by omega
    exact Or.inl ⟨⟨xs, stands, by omega⟩, hd G here⟩
  | succ left =>
    obtain ⟨y, hy⟩ : ∃ y, xs[n]? = some y := ⟨_, List.getElem?_eq_getElem (by omega)⟩
    refine Or.inr ⟨⟨xs, y, stands, hy⟩, Pv (n + 1), fun G' h => ⟨left, by omega, by omega, h⟩, ?_⟩
    rintro x _ ⟨rfl, only⟩
    exact hs n x _ (only xs stands) here
/-! the asks of a view -/
noncomputable def reqsOf (mo : Str) (row : List (Str × Int)) : V → List Str
  | .str z => if mo = "true" then [z] else srtN row
  | _ => srtN row
noncomputable def hintsOf (mo : Str) (row : List (Str × Int)) : List V := if mo = "none" then [.non] else (srtN row).map V.str
def toOf (row : List (Str × Int)) (z : Str) : Int := ((row.find? fun p => decide (p.1 = z)).map (·.2)).getD 0
noncomputable def asksFor (mo : Str) (ts : List (List (Str × Int))) (row : List (Str × Int)) (zs : List Str) : List (Str × V) := zs.flatMap fun z => (hintsOf mo (ts.getD (toOf row z).toNat [])).map fun h => (z, h)
noncomputable def asksOf (mo : Str) (ts : List (List (Str × Int))) (s : Int) (hv : V) : List (Str × V) := asksFor mo ts (ts.getD s.toNat []) (reqsOf mo (ts.getD s.toNat []) hv)
def AskAt (H : Hp) (v : V) (p : Str × V) : Prop := ∃ t, v = .ref t ∧ H t = some (.tup [.str p.1, p.2])
theorem AskAt.same {H G : Hp} {v : V} {p : Str × V} (a : AskAt H v p) (k : Same H G) : AskAt G v p := by
  obtain ⟨t, e, h⟩ := a
  exact ⟨t, e, k _ _ h⟩
/-- the asks in a list -/
structure AsksAt (H : Hp) (l : Addr) (ps : List (Str × V)) : Prop where
  ex : ∃ us : List V, H l = some (.lst us) ∧ Paired (AskAt H) us ps
theorem AsksAt.same {H G : Hp} {l : Addr} {ps : List (Str × V)} (a : AsksAt H l ps) (k : Same H G) : AsksAt G l ps := by
  obtain ⟨us, h1, h2⟩ := a.ex
  exact ⟨us, k _ _ h1, prd_imp h2 fun _ _ h => h.same k⟩
theorem AsksAt.add {H : Hp} {D t : Addr} {ps : List (Str × V)} (a : AsksAt H D ps) (nt : H t = none) (p : Str × V) : ∃ us, (upd H t (.tup [.str p.1, p.2])) D = some (.lst us) ∧ us.length = ps.length ∧ AsksAt (upd (upd H t (.tup [.str p.1, p.2])) D (.lst (us ++ [.ref t]))) D (ps ++ [p]) := by
  obtain ⟨us, h1, h2⟩ := a.ex
  have nD : D ≠ t := ne_of_none h1 nt
  have s := same_new (o := .tup [.str p.1, p.2]) nt
  refine ⟨us, s _ _ h1, Paired.length h2, ⟨us ++ [.ref t], upd_same, Paired.snoc (prd_imp h2 fun v q h => ?_) ⟨t, rfl, (upd_ne nD.symm).trans upd_same⟩⟩⟩
  obtain ⟨b, e, hb⟩ := h
  exact ⟨b, e, (upd_ne (ne_of hb h1 (by intro z; cases z))).trans (s _ _ hb)⟩
theorem toOf_val {row : List (Str × Int)} (nd : (row.map (·.1)).Nodup) {z : Str} (m : z ∈ row.map (·.1)) : valV (tkv row) (.inr z : Key) = some (.int (toOf row z)) ∧ ∃ p ∈ row, p.1 = z ∧ p.2 = toOf row z := by
  obtain ⟨p, hp, rfl⟩ := List.mem_map.mp m
  have e : toOf row p.1 = p.2 := by
    unfold toOf
    have : (row.find? fun q => decide (q.1 = p.1)) = some p := by
      have key : ∀ (l : List (Str × Int)), (l.map (·.1)).Nodup → p ∈ l → (l.find? fun q => decide (q.1 = p.1)) = some p := by
        intro l
        induction l with
        | nil => intro _ h; cases h
        | cons q l ih =>
          intro nd h
          rw [List.map_cons] at nd
          have ⟨n1, n2⟩ := List.nodup_cons.mp nd
          rcases List.mem_cons.mp h with e | h
          · subst e
            rw [List.find?_cons_of_pos (by simp)]
          · rw [List.find?_cons_of_neg, ih n2 h]
            intro e
            exact n1 (of_decide_eq_true e ▸ List.mem_map.mpr ⟨p, h, rfl⟩)
      exact key row nd hp
    rw [this]; rfl
  rw [e]
  exact ⟨tkv_val nd hp, p, hp, rfl, rfl⟩
theorem srtN_perm {r : List (Str × Int)} (h : ∃ ys : List Str, ys.Perm (r.map (·.1)) ∧ sortedS ys = true) : (srtN r).Perm (r.map (·.1)) := by
  obtain ⟨ys, p, s⟩ := h
  rw [← srtN_eq p s]; exact p
theorem srt_ex (l : List Str) : ∃ ys : List Str, ys.Perm l ∧ sortedS ys = true := by
  refine ⟨l.mergeSort (fun a b => !ltCps b.cps.toList a.cps.toList), List.mergeSort_perm _ _, sortedS_of_pairwise _ ?_⟩
  have h := List.pairwise_mergeSort (le := fun a b : Str => !ltCps b.cps.toList a.cps.toList) (fun a b c h k => ?_) (fun a b => ?_) l
  · exact h.imp fun {a b} e => by simpa using e
  · have h : leT a b := by simpa [leT] using h
    have k : leT b c := by simpa [leT] using k
    have := leT_trans h k
    simpa [leT] using this
  · rcases List.le_total a.cps.toList b.cps.toList with h | h
    · have := leT_iff.mpr h
      unfold leT at this
      simp [this]
    · have := leT_iff.mpr h
      unfold leT at this
      simp [this]
theorem srtN_all (r : List (Str × Int)) : (srtN r).Perm (r.map (·.1)) := srtN_perm (srt_ex _)
theorem srtN_len (r : List (Str × Int)) : (srtN r).length ≤ r.length := by
  by_cases h : ∃ ys : List Str, ys.Perm (r.map (·.1)) ∧ sortedS ys = true
  · have := (srtN_perm h).length_eq
    rw [List.length_map] at this
    omega
  · unfold srtN
    rw [dif_neg h]
    exact Nat.zero_le _
theorem hintsOf_len {mo : Str} {r : List (Str × Int)} (h1 : 1 ≤ r.length) : (hintsOf mo r).length ≤ r.length := by
  unfold hintsOf
  split
  · exact h1
  · rw [List.length_map]; exact srtN_len r
theorem asksFor_snoc (mo : Str) (ts : List (List (Str × Int))) (row : List (Str × Int)) (zs : List Str) (z : Str) : asksFor mo ts row (zs ++ [z]) = asksFor mo ts row zs ++ (hintsOf mo (ts.getD (toOf row z).toNat [])).map fun h => (z, h) := by
  unfold asksFor
  rw [List.flatMap_append]
  simp
theorem asksFor_len {mo : Str} {ts : List (List (Str × Int))} {row : List (Str × Int)} : ∀ {zs : List Str}, (∀ z ∈ zs, (hintsOf mo (ts.getD (toOf row z).toNat [])).length ≤ 15) → (asksFor mo ts row zs).length ≤ 15 * zs.length
  | [], _ => by simp [asksFor]
  | z :: zs, h => by
    have h1 := asksFor_len (mo := mo) (ts := ts) (row := row) (zs := zs) fun y m => h y (List.mem_cons_of_mem _ m)
    have h2 := h z List.mem_cons_self
    have e : asksFor mo ts row (z :: zs) = (hintsOf mo (ts.getD (toOf row z).toNat [])).map (fun h => (z, h)) ++ asksFor mo ts row zs := rfl
    rw [e, List.length_append, List.length_map, List.length_cons]
    omega
end Toy

namespace Toy
open PySem PySem.Spec PyProof.Rows L2
/-! dicts whose keys are nested tuples of numbers, texts and None -/
abbrev NK := PySem.NestedKey
mutual
/-- the value v is the key k -/
inductive KeyIs (H : Hp) : V → NK → Prop
  | non : KeyIs H .non .none
  | int (i : Int) : KeyIs H (.int i) (.num i)
  | str (x : Str) : KeyIs H (.str x) (.text x)
  | tup {a : Addr} {vs : List V} {ks : List NK} : H a = some (.tup vs) → KeysAre H vs ks → KeyIs H (.ref a) (.tup ks)
inductive KeysAre (H : Hp) : List V → List NK → Prop
  | nil : KeysAre H [] []
  | cons {v : V} {k : NK} {vs : List V} {ks : List NK} : KeyIs H v k → KeysAre H vs ks → KeysAre H (v :: vs) (k :: ks)
end
mutual
theorem KeyIs.firm {H G : Hp} (hk : ∀ a xs, H a = some (.tup xs) → G a = some (.tup xs)) : ∀ (k : NK) (v : V), KeyIs H v k → KeyIs G v k
  | .none, _, h => by cases h; exact .non
  | .num _, _, h => by cases h; exact .int _
  | .text _, _, h => by cases h; exact .str _
  | .tup ks, _, h => by
    cases h with
    | tup e t => exact .tup (hk _ _ e) (KeysAre.firm hk ks _ t)
theorem KeysAre.firm {H G : Hp} (hk : ∀ a xs, H a = some (.tup xs) → G a = some (.tup xs)) : ∀ (ks : List NK) (vs : List V), KeysAre H vs ks → KeysAre G vs ks
  | [], _, h => by cases h; exact .nil
  | k :: ks, _, h => by
    cases h with
    | cons h t => exact .cons (KeyIs.firm hk k _ h) (KeysAre.firm hk ks _ t)
end
theorem KeyIs.same {H G : Hp} {v : V} {k : NK} (h : KeyIs H v k) (s : Same H G) : KeyIs G v k := KeyIs.firm (fun a xs e => s _ _ e) k v h
mutual
theorem KeyIs.at {P : Program} {w : World} {H : Hp} {h : Heap} (ok : HOk P w H h) : ∀ (k : NK) (v : V) (u : Value), KeyIs H v k → RelV v u → NestedIs h k u
  | .none, _, u, q, r => by
    cases q
    cases (show u = Value.none from r)
    exact .none
  | .num i, _, u, q, r => by
    cases q
    obtain ⟨t, rfl⟩ := (show ∃ t, u = Value.int i t from r)
    exact .int _ _
  | .text x, _, u, q, r => by
    cases q
    obtain ⟨t, rfl⟩ := (show ∃ t, u = Value.str x t from r)
    exact .text _ _
  | .tup ks, _, u, q, r => by
    cases q with
    | @tup a vs _ e t =>
      cases (show u = Value.ref a from r)
      obtain ⟨_, its, r, o, h1, h2, n, h3⟩ := (show ObjOk P w H h a (.tup vs) from ok a _ e)
      exact .tup h1 h2 h3 (KeysAre.at ok ks vs its t r)
theorem KeysAre.at {P : Program} {w : World} {H : Hp} {h : Heap} (ok : HOk P w H h) : ∀ (ks : List NK) (vs : List V) (us : List Value), KeysAre H vs ks → Vals vs us → NestedAll h ks us
  | [], _, us, q, r => by
    cases q
    cases r
    exact .nil
  | k :: ks, _, us, q, r => by
    cases q with
    | cons q1 q2 =>
      cases r with
      | cons r1 r2 => exact .cons (KeyIs.at ok k _ _ q1 r1) (KeysAre.at ok ks _ _ q2 r2)
end
theorem RelO.of_iff {x : V} {u : Value} (r : RelV x u) : RelV x u := r
abbrev NEnt := NK × Addr × V
def NRel (p : NEnt) (q : NK × Addr × Value) : Prop := p.1 = q.1 ∧ p.2.1 = q.2.1 ∧ RelV p.2.2 q.2.2
/-- such a dict, with the tuples that its keys are -/
def NdO (P : Program) (w : World) (d : Addr) (xs : List NEnt) : HO := .ext fun h => xs.length ≤ sizeLine ∧ (d == sysModules) = false ∧ ∃ ys : List (NK × Addr × Value), Paired NRel xs ys ∧
  ∃ o es ep, h.get? d = some o ∧ o.ExactDict ∧ o.data = .dict es ep ∧ es.toList = ys.map (entryOfKey (nestedKind P w)) ∧ (ys.map (·.1)).Nodup
structure NdKeys (H : Hp) (xs : List NEnt) : Prop where
  k : ∀ x ∈ xs, KeyIs H (.ref x.2.1) x.1 ∧ x.1.depth ≤ 8
theorem NdKeys.firm {H G : Hp} {xs : List NEnt} (n : NdKeys H xs) (hk : ∀ a ys, H a = some (.tup ys) → G a = some (.tup ys)) : NdKeys G xs := ⟨fun x m => ⟨(n.k x m).1.firm hk _ _, (n.k x m).2⟩⟩
/-- at d stands such a dict (a new one, or one that has been written) -/
def NdAt (P : Program) (w : World) (H : Hp) (d : Addr) (xs : List NEnt) : Prop := (xs = [] ∧ H d = some (.dK [])) ∨ (H d = some (NdO P w d xs) ∧ NdKeys H xs)
theorem NdAt.same {P : Program} {w : World} {H G : Hp} {d : Addr} {xs : List NEnt} (a : NdAt P w H d xs) (s : Same H G) : NdAt P w G d xs := by
  rcases a with ⟨e, h⟩ | ⟨h, n⟩
  · exact .inl ⟨e, s _ _ h⟩
  · exact .inr ⟨s _ _ h, n.firm fun a ys e => s _ _ e⟩
def lookN (xs : List NEnt) (k : NK) : Option V := (xs.find? fun x => decide (x.1 = k)).map (·.2.2)
theorem look_rel {xs : List NEnt} {ys : List (NK × Addr × Value)} (r : Paired NRel xs ys) (k : NK) : (lookN xs k = none ∧ atKey ys k = none) ∨ ∃ v p, lookN xs k = some v ∧ atKey ys k = some p ∧ RelV v p.2 := by
  induction r with
  | nil => exact .inl ⟨rfl, rfl⟩
  | @cons x y xs ys h t ih =>
    obtain ⟨h1, h2, h3⟩ := h
    by_cases e : x.1 = k
    · have e2 : y.1 = k := h1 ▸ e
      refine .inr ⟨x.2.2, y.2, ?_, ?_, h3⟩
      · unfold lookN; rw [List.find?_cons_of_pos (by simpa using e)]; rfl
      · unfold atKey; rw [List.find?_cons_of_pos (by simpa using e2)]; rfl
    · have e2 : ¬ y.1 = k := h1 ▸ e
      have a : lookN (x :: xs) k = lookN xs k := by unfold lookN; rw [List.find?_cons_of_neg (by simpa using e)]
      have b : atKey (y :: ys) k = atKey ys k := by unfold atKey; rw [List.find?_cons_of_neg (by simpa using e2)]
      rw [a, b]; exact ih
section
variable {X : Cx} {pins : List (Addr × Obj)} {σ : L2.St} {H : Hp} {s : Shared} {d b : Addr} {xs : List NEnt} {k : NK} {A : Around} {E : Value → Shared → Prop}
theorem nd_of (I : Inv X pins σ H s) (a : NdAt X.prog X.w H d xs) : xs.length ≤ sizeLine ∧ (d == sysModules) = false ∧ ∃ ys, Paired NRel xs ys ∧ s.heap.DictOfH (nestedKind X.prog X.w) d ys := by
  rcases a with ⟨rfl, h⟩ | ⟨h, n⟩
  · obtain ⟨z, hd, vs, rel, o, es, ep, h1, h2, h3, _, h5, _⟩ := dk_of I.hok h
    have e0 : vs = [] := by cases rel; rfl
    subst e0
    have e1 : es.toList = [] := by
      generalize es.toList = l at h5
      cases h5; rfl
    exact ⟨Nat.zero_le _, hd, [], .nil, o, es, ep, h1, h2, h3, by rw [e1]; rfl, by simp, by simp⟩
  · obtain ⟨⟨z, hd, ys, rel, o, es, ep, h1, h2, h3, h4, h5⟩, _⟩ := I.hok d _ h
    refine ⟨z, hd, ys, rel, o, es, ep, h1, h2, h3, h4, fun y m => ?_, h5⟩
    obtain ⟨i, hi⟩ := List.getElem?_of_mem m
    obtain ⟨x, hx, r1, r2, _⟩ := prd_at2 rel hi
    obtain ⟨q1, q2⟩ := n.k x (List.mem_of_getElem? hx)
    rw [← r1, ← r2]
    exact ⟨KeyIs.at I.hok _ _ _ q1 rfl, q2⟩
theorem nd_key (I : Inv X pins σ H s) (ky : KeyIs H (.ref b) k) (dp : k.depth ≤ 8) : (nestedKind X.prog X.w).is s.heap k b := ⟨KeyIs.at I.hok _ _ _ ky rfl, dp⟩
theorem nd_room (hu : A.units + 64 < cLine) : (nestedKind X.prog X.w).room A.in1 := by
  show A.in1.units + 8 < cLine
  have : A.in1.units = A.units + 1 := rfl
  omega
theorem nd_in {Q : Value → Shared → Prop} (hu : A.units + 64 < cLine) (I : Inv X pins σ H s) (a : NdAt X.prog X.w H d xs) (ky : KeyIs H (.ref b) k) (dp : k.depth ≤ 8) (h : ∀ s', Inv X pins σ H s' → Q (.bool (lookN xs k).isSome) s') :
    wpAny (model X.prog X.w) A (compareOp .In (.ref b) (.ref d)) Q E s := by
  obtain ⟨z, hd, ys, rel, dd⟩ := nd_of I a
  refine wpAny_in_heap (nd_room (X := X) hu) (nd_key I ky dp) hd dd ?_
  rcases look_rel rel k with ⟨e1, e2⟩ | ⟨v, p, e1, e2, _⟩
  · rw [e2]; rw [e1] at h; exact h _ (I.tok _)
  · rw [e2]; rw [e1] at h; exact h _ (I.tok _)
theorem nd_notIn {Q : Value → Shared → Prop} (hu : A.units + 64 < cLine) (I : Inv X pins σ H s) (a : NdAt X.prog X.w H d xs) (ky : KeyIs H (.ref b) k) (dp : k.depth ≤ 8) (h : ∀ s', Inv X pins σ H s' → Q (.bool (!(lookN xs k).isSome)) s') :
    wpAny (model X.prog X.w) A (compareOp .NotIn (.ref b) (.ref d)) Q E s := by
  obtain ⟨z, hd, ys, rel, dd⟩ := nd_of I a
  refine wpAny_notIn_heap (nd_room (X := X) hu) (nd_key I ky dp) hd dd ?_
  rcases look_rel rel k with ⟨e1, e2⟩ | ⟨v, p, e1, e2, _⟩
  · rw [e2]; rw [e1] at h; exact h _ (I.tok _)
  · rw [e2]; rw [e1] at h; exact h _ (I.tok _)
theorem nd_get {v : V} {Q : Value → Shared → Prop} (hu : A.units + 64 < cLine) (I : Inv X pins σ H s) (a : NdAt X.prog X.w H d xs) (ky : KeyIs H (.ref b) k) (dp : k.depth ≤ 8) (l : lookN xs k = some v) (h : ∀ u s', Inv X pins σ H s' → RelV v u → Q u s') :
    wpAny (model X.prog X.w) A (getItem (.ref d) (.ref b)) Q E s := by
  obtain ⟨z, hd, ys, rel, dd⟩ := nd_of I a
  rcases look_rel rel k with ⟨e1, _⟩ | ⟨v', p, e1, e2, r⟩
  · rw [l] at e1; cases e1
  · rw [l] at e1; cases e1
    exact wpAny_getItem_heap (nd_room (X := X) hu) (nd_key I ky dp) dd e2 (h _ _ (I.tok _) r)
theorem nd_put {v : V} {u : Value} {Q : Unit → Shared → Prop} (hu : A.units + 64 < cLine) (I : Inv X pins σ H s) (a : NdAt X.prog X.w H d xs) (ky : KeyIs H (.ref b) k) (dp : k.depth ≤ 8) (l : lookN xs k = none) (small : xs.length < sizeLine) (rv : RelV v u)
    (h : ∀ s', Inv X pins σ (upd H d (NdO X.prog X.w d (xs ++ [(k, b, v)]))) s' → Q () s') : wpAny (model X.prog X.w) A (setItem (.ref d) (.ref b) u) Q E s := by
  obtain ⟨z, hd, ys, rel, dd⟩ := nd_of I a
  have hz : ys.length ≤ sizeLine := by rw [← Paired.length rel]; exact z
  rcases look_rel rel k with ⟨_, e2⟩ | ⟨v', p, e1, _, _⟩
  · refine wpAny_setItem_heap (hsz := hz) (nd_room (X := X) hu) (nd_key I ky dp) dd fun h' dd' hs => h _ ?_
    rw [storedH_new e2] at dd'
    obtain ⟨o, es, ep, h1, h2, h3, h4, _, h5⟩ := dd'
    refine d_write I ?_ hs ⟨o, h1⟩ ⟨⟨by rw [List.length_append]; exact small, hd, ys ++ [(k, b, u)], Paired.snoc rel ⟨rfl, rfl, rv⟩, o, es, ep, h1, h2, h3, h4, h5⟩, ⟨o, h1⟩, fun g1 g2 ⟨q1, q2, q3, q4, o', es', ep', q5, q6⟩ kk => ⟨q1, q2, q3, q4, o', es', ep', kk _ q5, q6⟩⟩
    rcases a with ⟨_, e⟩ | ⟨e, _⟩ <;> rw [e] <;> exact True.intro
  · rw [l] at e1; cases e1
theorem nd_typeIs (I : Inv X pins σ H s) (a : NdAt X.prog X.w H d xs) : s.TypeIs (.ref d) "dict" := by
  obtain ⟨_, _, ys, _, dd⟩ := nd_of I a
  exact dd.typeIs
end
/-! the rules -/
def NdKey (P : Program) (w : World) (H : Hp) (x y : V) (xs : List NEnt) (k : NK) (d b : Addr) : Prop := x = .ref d ∧ y = .ref b ∧ NdAt P w H d xs ∧ KeyIs H (.ref b) k ∧ k.depth ≤ 8
def tNdIn (P : Program) (w : World) (ty td : TE) : TE := fun σ H Q => ty σ H fun y H1 => td σ H1 fun x H2 => ∃ xs k d b, NdKey P w H2 x y xs k d b ∧ Q (.bl (lookN xs k).isSome) H2
def tNdNotIn (P : Program) (w : World) (ty td : TE) : TE := fun σ H Q => ty σ H fun y H1 => td σ H1 fun x H2 => ∃ xs k d b, NdKey P w H2 x y xs k d b ∧ Q (.bl (!(lookN xs k).isSome)) H2
def tNdGet (P : Program) (w : World) (td ty : TE) : TE := fun σ H Q => td σ H fun x H1 => ty σ H1 fun y H2 => ∃ xs k d b v, NdKey P w H2 x y xs k d b ∧ lookN xs k = some v ∧ Q v H2
def sNdPut (P : Program) (w : World) (td ty tv : TE) : TS := fun D σ H => tv σ H fun v H1 => td σ H1 fun x H2 => ty σ H2 fun y H3 => ∃ xs k d b, NdKey P w H3 x y xs k d b ∧ lookN xs k = none ∧ xs.length < sizeLine ∧ D.nx σ (upd H3 d (NdO P w d (xs ++ [(k, b, v)])))
section
variable {X : Cx} {o i e value : Expr} {pos pos' tpos : Pos} {td ty tv : TE}
theorem pc_ndin (hu : X.A.units + 64 < cLine) (hi : PE X i ty) (ho : PE X o td) : PC X .In i o (tNdIn X.prog X.w ty td) := by
  refine ⟨fun pins s σ H Q I h => ?_⟩
  refine thn (hi.run pins s σ H _ I h) fun iv s1 ⟨y, H1, I1, ry, q1⟩ => thn (ho.run pins s1 σ H1 _ I1 q1) fun u s2 ⟨x, H2, I2, rx, xs, k, d, b, ⟨ex, ey, a, ky, dp⟩, q2⟩ => ?_
  subst ex ey
  cases (show u = Value.ref d from rx)
  cases (show iv = Value.ref b from ry)
  exact nd_in hu I2 a ky dp fun s3 I3 => ⟨.bl _, H2, I3, rfl, q2⟩
theorem pc_ndnotin (hu : X.A.units + 64 < cLine) (hi : PE X i ty) (ho : PE X o td) : PC X .NotIn i o (tNdNotIn X.prog X.w ty td) := by
  refine ⟨fun pins s σ H Q I h => ?_⟩
  refine thn (hi.run pins s σ H _ I h) fun iv s1 ⟨y, H1, I1, ry, q1⟩ => thn (ho.run pins s1 σ H1 _ I1 q1) fun u s2 ⟨x, H2, I2, rx, xs, k, d, b, ⟨ex, ey, a, ky, dp⟩, q2⟩ => ?_
  subst ex ey
  cases (show u = Value.ref d from rx)
  cases (show iv = Value.ref b from ry)
  exact nd_notIn hu I2 a ky dp fun s3 I3 => ⟨.bl _, H2, I3, rfl, q2⟩
theorem pe_ndget (hu : X.A.units + 64 < cLine) (ho : PE X o td) (hi : PE X i ty) (hs : NoSl i) : PE X (.Subscript o i pos) (tNdGet X.prog X.w td ty) := by
  refine ⟨fun pins s σ H Q I h => ?_⟩
  refine subD_of PySem.F.slot_dict_getitem.lookup hs (thn (ho.run pins s σ H _ I h) fun u s1 ⟨x, H1, I1, rx, q1⟩ => thn (hi.run pins s1 σ H1 _ I1 q1) fun iv s2 ⟨y, H2, I2, ry, xs, k, d, b, v, ⟨ex, ey, a, ky, dp⟩, l, q2⟩ => ?_)
  subst ex ey
  cases (show u = Value.ref d from rx)
  cases (show iv = Value.ref b from ry)
  exact ⟨nd_typeIs I2 a, nd_get hu I2 a ky dp l fun w' s3 I3 rw' => ⟨v, H2, I3, rw', q2⟩⟩
theorem ps_ndput (hu : X.A.units + 64 < cLine) (ho : PE X o td) (hi : PE X i ty) (hv : PE X value tv) (hs : swapsWith value (some (.Subscript o i pos')) pos.line X.env = pure false) :
    PS X (.Assign [.Subscript o i pos'] value pos) (sNdPut X.prog X.w td ty tv) := by
  refine ⟨fun pins s σ H D I h => ?_⟩
  refine wpAny_Assign_Subscript (thn (hv.run pins s σ H _ I h) fun r s1 ⟨v, H1, I1, rv, q1⟩ => thn (ho.run pins s1 σ H1 _ I1 q1) fun u s2 ⟨x, H2, I2, rx, q2⟩ => thn (hi.run pins s2 σ H2 _ I2 q2) fun iv s3 ⟨y, H3, I3, ry, xs, k, d, b, ⟨ex, ey, a, ky, dp⟩, l, sm, q3⟩ => ?_) hs
  subst ex ey
  cases (show u = Value.ref d from rx)
  cases (show iv = Value.ref b from ry)
  exact nd_put hu I3 a ky dp l sm rv fun s4 I4 => ⟨σ, _, I4, q3⟩
end
/-- what the dict is behind a store -/
theorem NdAt.put {P : Program} {w : World} {H : Hp} {d b : Addr} {xs : List NEnt} {k : NK} {v : V} (a : NdAt P w H d xs) (ky : KeyIs H (.ref b) k) (dp : k.depth ≤ 8) : NdAt P w (upd H d (NdO P w d (xs ++ [(k, b, v)]))) d (xs ++ [(k, b, v)]) := by
  have hk : ∀ a ys, H a = some (.tup ys) → (upd H d (NdO P w d (xs ++ [(k, b, v)]))) a = some (.tup ys) := fun c ys e => by
    refine (upd_ne ?_).trans e
    intro z
    subst z
    rcases a with ⟨_, h⟩ | ⟨h, _⟩ <;> rw [e] at h <;> cases h
  refine .inr ⟨upd_same, ⟨fun x m => ?_⟩⟩
  rcases List.mem_append.mp m with m | m
  · rcases a with ⟨e, _⟩ | ⟨_, n⟩
    · rw [e] at m; cases m
    · exact ⟨(n.k x m).1.firm hk _ _, (n.k x m).2⟩
  · rw [List.mem_singleton.mp m]
    exact ⟨ky.firm hk _ _, dp⟩
end Toy

namespace Toy
open PySem PySem.Spec PyProof.Rows L2 PySem.SeqAt
/-! a dict beside things of other kinds -/
section
variable {prog : Program} {w : World} {A : Around} {E : Value → Shared → Prop} {s : Shared}
theorem dict_no {d : Addr} {x : Value} {T : String} (td : s.TypeIs (.ref d) "dict") (tx : s.TypeIs x T) (no : isSubtype (.type T) (.type "dict") = pure false) (Q : Value → Shared → Prop) (q : Q .notImplemented s) :
    wpAny (model prog w) A (call (.builtin "dict.__eq__") [.ref d, x]) Q E s := by
  refine wpAny_call_entry PySem.F.slot_dict_eq td PySem.F.entry_dict_eq ?_ (PySem.F.args_dict_eq_2 _ _)
  have args : ∀ {R : Value × Value → Shared → Prop} {E' : Value → Shared → Prop} {A' : Around}, R (.ref d, x) s → wpAny (model prog w) A' (Builtin.Dict.dictSlotArgs "__eq__" ⟨[.ref d, x], []⟩) R E' s := fun {R E' A'} r => by
    unfold Builtin.Dict.dictSlotArgs
    exact wpAny_bind (wpAny_notOrdered_dict td (show wpAny _ _ (pure (Value.ref d, x)) _ _ s from wpAny_pure r))
  refine wpAny_bind (m := Builtin.Dict.dictSlotArgs "__eq__" ⟨[.ref d, x], []⟩) (args (wpAny_bind (wpAny_isInstance (T := T) tx no ?_)))
  rw [if_pos (show (!false) = true from rfl)]
  exact wpAny_bind (wpAny_rule (wpAny_pure ⟨.notImplemented, rfl, q⟩))
theorem tup_no {l d : Addr} (tl : s.TypeIs (.ref l) "tuple") (td : s.TypeIs (.ref d) "dict") (Q : Value → Shared → Prop) (q : Q .notImplemented s) : wpAny (model prog w) A (call (.builtin "tuple.__eq__") [.ref l, .ref d]) Q E s := by
  refine wpAny_call_entry PySem.F.slot_tuple_eq tl PySem.F.entry_tuple_eq ?_ (PySem.F.args_tuple_eq_2 _ _)
  refine wpAny_bind (m := isInstance (.ref d) (.type "tuple")) (wpAny_isInstance td PySem.F.sub_dict_tuple ?_)
  exact wpAny_pure ⟨.notImplemented, rfl, q⟩
theorem str_asks (z : Str) (t : Tok) (d : Addr) (dd : Option Addr) (es : Array DictEntry) (ep : Nat) (sl : Array (Option Value)) :
    Meets (Builtin.«str.__eq__» ⟨[.str z t, .ref d], []⟩) (fun _ R s => s.heap.get? d = some { cls := .type "dict", dict := dd, data := .dict es ep, slots := sl } ∧ R (.ok (.ret .notImplemented)) s) :=
  .of_wp fun prog w A R s h => by
    obtain ⟨hp, g, d', tk, os⟩ := s
    obtain ⟨hd, r⟩ := h
    wp_walk using PySem.AutoSeq1.wpAny_loadPart' hd, wpAny_load hd
    exact ⟨_, rfl, r⟩
end
theorem none_dict {A : Around} {s : Shared} {d : Addr} (td : s.TypeIs (.ref d) "dict") (hu : A.units < cLine) : EqAt A s .none (.ref d) false := fun prog w E Q q => by
  have rc : wpAny (model prog w) A (richCompare .Eq .none (.ref d)) (fun v s' => v = .bool false ∧ Q false s') E s :=
    rc_eq_decline_or (k := false) rfl td (by decide) PySem.F.sub_dict_NoneType PySem.F.slot_NoneType_eq PySem.F.slot_dict_eq_refl
      (fun _ hq => call_gives PySem.F.slot_NoneType_eq rfl PySem.F.entry_NoneType_eq (PySem.F.args_NoneType_eq_2 _ _) (NoneType___eq___none_ref_0 d) hq)
      (fun Q1 hq => dict_no (x := .none) (T := "NoneType") td rfl PySem.F.sub_NoneType_dict Q1 hq)
      (fun _ hq => wpAny_of_eq (rfl : isSame .none (.ref d) = pure false) hq) (.inr hu) ⟨rfl, q⟩
  unfold eqBool
  refine wpAny_holding (wpAny_ite_split (fun same => absurd (eq_of_beq same) nofun) fun _ => wpAny_bind (wpAny_mono rc ?_ fun _ _ e => e))
  rintro _ s' ⟨rfl, q'⟩
  exact wpAny_truthy_bool q'
/-- a dict stands at d -/
def IsDct (s : Shared) (d : Addr) : Prop := ∃ (dd : Option Addr) (es : Array DictEntry) (ep : Nat) (sl : Array (Option Value)), s.heap.get? d = some { cls := .type "dict", dict := dd, data := .dict es ep, slots := sl }
theorem IsDct.ty {s : Shared} {d : Addr} (i : IsDct s d) : s.TypeIs (.ref d) "dict" := by
  obtain ⟨_, _, _, _, h⟩ := i
  exact ⟨_, h, rfl⟩
theorem str_dict {A : Around} {s : Shared} {d : Addr} (z : Str) (t : Tok) (i : IsDct s d) (hu : A.units < cLine) : EqAt A s (.str z t) (.ref d) false := fun prog w E Q q => by
  have td := i.ty
  obtain ⟨dd, es, ep, sl, hd⟩ := i
  have rc : wpAny (model prog w) A (richCompare .Eq (.str z t) (.ref d)) (fun v s' => v = .bool false ∧ Q false s') E s :=
    rc_eq_decline_or (k := false) rfl td (by decide) PySem.F.sub_dict_str PySem.F.slot_str_eq PySem.F.slot_dict_eq_refl
      (fun _ hq => call_meets PySem.F.slot_str_eq rfl PySem.F.entry_str_eq (PySem.F.args_str_eq_2 _ _) (str_asks z t d dd es ep sl) ⟨hd, hq⟩)
      (fun Q1 hq => dict_no (x := .str z t) (T := "str") td rfl PySem.F.sub_str_dict Q1 hq)
      (fun _ hq => wpAny_of_eq (rfl : isSame (.str z t) (.ref d) = pure false) hq) (.inr hu) ⟨rfl, q⟩
  unfold eqBool
  refine wpAny_holding (wpAny_ite_split (fun same => absurd (eq_of_beq same) nofun) fun _ => wpAny_bind (wpAny_mono rc ?_ fun _ _ e => e))
  rintro _ s' ⟨rfl, q'⟩
  exact wpAny_truthy_bool q'
theorem tup_dict {A : Around} {s : Shared} {l d : Addr} {items : Array Value} (hl : s.heap.IsTuple l items) (i : IsDct s d) (hu : A.units < cLine) : EqAt A s (.ref l) (.ref d) false := by
  have td := i.ty
  obtain ⟨o, ho, hc, hi⟩ := id hl
  obtain ⟨dd, es, ep, sl, hd⟩ := i
  have ne : l ≠ d := fun e => by
    subst e
    rw [hd] at ho
    cases ho
    injection hc with hc
    exact absurd hc (by decide)
  refine .of_refs ne fun prog w E Q q => ?_
  exact rc_eq_decline_or (k := false) ⟨_, ho, hc⟩ td (by decide) PySem.F.sub_dict_tuple PySem.F.slot_tuple_eq PySem.F.slot_dict_eq_refl
    (fun Q1 hq => tup_no ⟨_, ho, hc⟩ td Q1 hq) (fun Q1 hq => dict_no (x := .ref l) (T := "tuple") td ⟨_, ho, hc⟩ PySem.F.sub_tuple_dict Q1 hq)
    (fun _ hq => wpAny_isSame_ref_other' ne ho hd (by simp) hq) (.inr hu) q
end Toy

namespace Toy
open PySem PySem.Spec PyProof.Rows L2 PySem.SeqAt
/-! any thing of the built-in kinds in a list of asks -/
section
variable {X : Cx} {pins : List (Addr × Obj)} {σ : L2.St} {H : Hp} {s : Shared}
theorem dk_dct (I : Inv X pins σ H s) {a : Addr} {kvs : List (Key × V)} (h : H a = some (.dK kvs)) : IsDct s a := by
  obtain ⟨_, _, vs, _, ⟨c, dd, dt, sl⟩, es, ep, h1, h2, h3, _⟩ := dk_of I.hok h
  have h3 : dt = .dict es ep := h3
  have h4 : c = .type "dict" := h2.1
  subst h3 h4
  exact ⟨dd, es, ep, sl, h1⟩
theorem flat_eq (I : Inv X pins σ H s) {f v : V} {A0 : Addr → Prop} (hf : f = .non ∨ ∃ z, f = .str z) (D : Dat A0 H v) {uf uv : Value} (rf : RelV f uf) (rv : RelV v uv) {A : Around} (hu : A.units < cLine) : EqAt A s uf uv (decide (f = v)) := by
  rcases hf with rfl | ⟨z, rfl⟩
  · cases (show uf = Value.none from rf)
    cases D with
    | non => cases (show uv = Value.none from rv); exact EqAt.same _
    | bl b => cases (show uv = Value.bool b from rv); exact EqAt.none_bool b
    | int i => obtain ⟨t, rfl⟩ := (show ∃ t, uv = Value.int i t from rv); exact EqAt.none_int i t
    | str y => obtain ⟨t, rfl⟩ := (show ∃ t, uv = Value.str y t from rv); exact EqAt.none_str y t
    | lst a xs _ h _ =>
      cases (show uv = Value.ref a from rv)
      obtain ⟨us, _, p, _⟩ := I.list (SqL.of h)
      exact EqAt.none_list p.isList hu
    | tup a xs _ h _ =>
      cases (show uv = Value.ref a from rv)
      obtain ⟨us, _, p, _⟩ := I.tuple (SqT.of h)
      exact EqAt.none_tuple p hu
    | dK a kvs _ h _ =>
      cases (show uv = Value.ref a from rv)
      exact none_dict (dk_dct I h).ty hu
  · obtain ⟨t, rfl⟩ := (show ∃ t, uf = Value.str z t from rf)
    cases D with
    | non => cases (show uv = Value.none from rv); exact EqAt.str_none z t
    | bl b => cases (show uv = Value.bool b from rv); exact EqAt.str_bool z t b
    | int i => obtain ⟨t2, rfl⟩ := (show ∃ t, uv = Value.int i t from rv); exact EqAt.str_int z t i t2
    | str y =>
      obtain ⟨t2, rfl⟩ := (show ∃ t, uv = Value.str y t from rv)
      refine (EqAt.str_str z t y t2).cast ?_
      rw [Bool.eq_iff_iff, beq_iff_eq, decide_eq_true_iff]
      exact ⟨fun e => by rw [e], fun e => by injection e⟩
    | lst a xs _ h _ =>
      cases (show uv = Value.ref a from rv)
      obtain ⟨us, _, p, _⟩ := I.list (SqL.of h)
      exact EqAt.str_list z t p.isList hu
    | tup a xs _ h _ =>
      cases (show uv = Value.ref a from rv)
      obtain ⟨us, _, p, _⟩ := I.tuple (SqT.of h)
      exact EqAt.str_tuple z t p hu
    | dK a kvs _ h _ =>
      cases (show uv = Value.ref a from rv)
      exact str_dict z t (dk_dct I h) hu
/-- the thing x is the ask p -/
def IsAsk (H : Hp) (x : V) (p : Str × V) : Prop := ∃ a, x = .ref a ∧ H a = some (.tup [.str p.1, p.2])
open Classical in
theorem ask_eq (I : Inv X pins σ H s) {x : V} {A0 : Addr → Prop} {t : Addr} {p : Str × V} (ht : H t = some (.tup [.str p.1, p.2])) (fl : p.2 = .non ∨ ∃ z, p.2 = .str z) (D : Dat A0 H x) {ux : Value} (rx : RelV x ux) {A : Around} (hu : A.units + 1 < cLine) :
    EqAt A s (.ref t) ux (decide (IsAsk H x p)) := by
  have hu0 : A.units < cLine := by omega
  obtain ⟨its, rt, pt, _⟩ := I.tuple (SqT.of (K := X.K) ht)
  have no : (∀ a, x = .ref a → H a ≠ some (.tup [.str p.1, p.2])) → decide (IsAsk H x p) = false := fun h => decide_eq_false fun ⟨a, e, q⟩ => h a e q
  cases D with
  | non => cases (show ux = Value.none from rx); rw [no fun a e => nomatch e]; exact EqAt.tuple_none pt hu0
  | bl b => cases (show ux = Value.bool b from rx); rw [no fun a e => nomatch e]; exact EqAt.tuple_bool b pt hu0
  | int i => obtain ⟨t2, rfl⟩ := (show ∃ t, ux = Value.int i t from rx); rw [no fun a e => nomatch e]; exact EqAt.tuple_int i t2 pt hu0
  | str y => obtain ⟨t2, rfl⟩ := (show ∃ t, ux = Value.str y t from rx); rw [no fun a e => nomatch e]; exact EqAt.tuple_str y t2 pt hu0
  | lst a xs _ h _ =>
    cases (show ux = Value.ref a from rx)
    obtain ⟨us, _, q, _⟩ := I.list (SqL.of (K := X.K) h)
    rw [no fun b e z => by cases e; rw [h] at z; cases z]
    exact EqAt.tuple_list pt q.isList hu0
  | dK a kvs _ h _ =>
    cases (show ux = Value.ref a from rx)
    rw [no fun b e z => by cases e; rw [h] at z; cases z]
    exact tup_dict pt (dk_dct I h) hu0
  | tup a xs _ h hx =>
    cases (show ux = Value.ref a from rx)
    by_cases e : t = a
    · subst e
      rw [decide_eq_true (show IsAsk H (.ref t) p from ⟨t, rfl, ht⟩)]
      exact EqAt.same _
    obtain ⟨its2, r2, p2, _⟩ := I.tuple (SqT.of (K := X.K) h)
    have n1 : its.length = 2 := (Vals.length rt).symm
    have n2 := Vals.length r2
    refine EqAt.cast (EqAt.of_refs e (RcAt.tuples (e := fun j => decide (([V.str p.1, p.2] : List V)[j]? = xs[j]?)) pt p2 hu0 fun j h1 h2 => ?_)) ?_
    · have j2 : j < xs.length := by rw [n2]; simpa using h2
      have j1 : j < 2 := by rw [← n1]; simpa using h1
      obtain ⟨f, hf, fl2⟩ : ∃ f, ([V.str p.1, p.2] : List V)[j]? = some f ∧ (f = .non ∨ ∃ z, f = .str z) := by
        rcases (by omega : j = 0 ∨ j = 1) with rfl | rfl
        · exact ⟨_, rfl, .inr ⟨_, rfl⟩⟩
        · exact ⟨_, rfl, fl⟩
      have hxj : xs[j]? = some xs[j] := List.getElem?_eq_getElem j2
      obtain ⟨u1, hu1, ru1⟩ := Vals.get rt hf
      obtain ⟨u2, hu2, ru2⟩ := Vals.get r2 hxj
      have q1 : its.toArray[j] = u1 := by
        have := (List.getElem?_eq_some_iff.mp hu1).2
        simpa using this
      have q2 : its2.toArray[j] = u2 := by
        have := (List.getElem?_eq_some_iff.mp hu2).2
        simpa using this
      rw [q1, q2, hf, hxj]
      have room : A.in1.units < cLine := by
        have : A.in1.units = A.units + 1 := rfl
        omega
      refine (flat_eq I fl2 (hx _ (List.getElem_mem j2)) ru1 ru2 room).cast ?_
      rw [Bool.eq_iff_iff, decide_eq_true_iff, decide_eq_true_iff]
      exact ⟨fun e => by rw [e], fun e => by injection e⟩
    · have sz : its.toArray.size = 2 := by simpa using n1
      have sz2 : its2.toArray.size = xs.length := by simpa using n2.symm
      rw [sz, sz2, Bool.eq_iff_iff, decide_eq_true_iff, Bool.and_eq_true, List.all_eq_true, beq_iff_eq]
      constructor
      · rintro ⟨all, len⟩
        refine ⟨a, rfl, ?_⟩
        rw [h]
        congr 2
        apply List.ext_getElem?
        intro j
        by_cases hj : j < 2
        · exact (of_decide_eq_true (all j (List.mem_range.mpr (by omega)))).symm
        · rw [List.getElem?_eq_none (by omega), List.getElem?_eq_none (by simpa using Nat.le_of_not_lt hj)]
      · rintro ⟨b, eb, hb⟩
        cases eb
        rw [h] at hb
        cases hb
        exact ⟨fun j _ => decide_eq_true rfl, rfl⟩
end
open Classical in
def rAskIn (no : Bool) : R2 := fun x y H Q => ∃ (A0 : Addr → Prop) (l : Addr) (ps : List (Str × V)), y = .ref l ∧ Dat A0 H x ∧ AsksAt H l ps ∧ (∀ p ∈ ps, p.2 = .non ∨ ∃ z, p.2 = .str z) ∧ Q (.bl (no != decide (∃ p ∈ ps, IsAsk H x p))) H
section
variable {X : Cx}
open Classical in
theorem ask_items {pins : List (Addr × Obj)} {σ : L2.St} {H : Hp} {s : Shared} (I : Inv X pins σ H s) {x : V} {A0 : Addr → Prop} (D : Dat A0 H x) {ux : Value} (rx : RelV x ux) {A : Around} (hu : A.units + 2 < cLine) : ∀ {us : List V} {ps : List (Str × V)} {its : List Value}, Paired (AskAt H) us ps → Vals us its → (∀ p ∈ ps, p.2 = .non ∨ ∃ z, p.2 = .str z) →
    (∀ y ∈ its, EqAt A.in1 s y ux (decide (∃ p, p ∈ ps ∧ y = y ∧ ∃ t, y = Value.ref t ∧ H t = some (.tup [.str p.1, p.2]) ∧ IsAsk H x p))) ∧
    (its.any fun y => decide (∃ p, p ∈ ps ∧ y = y ∧ ∃ t, y = Value.ref t ∧ H t = some (.tup [.str p.1, p.2]) ∧ IsAsk H x p)) = decide (∃ p ∈ ps, IsAsk H x p) := by
  intro us ps its P V1 fl
  have room : A.in1.units + 1 < cLine := by
    have : A.in1.units = A.units + 1 := rfl
    omega
  refine ⟨fun y my => ?_, ?_⟩
  · obtain ⟨i, hi⟩ := List.getElem?_of_mem my
    obtain ⟨v, hv, rv⟩ := prd_at2 V1 hi
    obtain ⟨p, hp, t, rfl, ht⟩ := prd_at1 P hv
    cases (show y = Value.ref t from rv)
    refine (ask_eq I ht (fl p (List.mem_of_getElem? hp)) D rx room).cast ?_
    rw [Bool.eq_iff_iff, decide_eq_true_iff, decide_eq_true_iff]
    constructor
    · exact fun h => ⟨p, List.mem_of_getElem? hp, rfl, t, rfl, ht, h⟩
    · rintro ⟨p', _, _, t', e, ht', h⟩
      cases e
      rw [ht] at ht'
      have : p = p' := by
        injection ht' with e
        injection e with e
        injection e with e1 e2
        injection e1 with e1
        injection e2 with e2 _
        exact Prod.ext e1 e2
      rw [this]; exact h
  · rw [Bool.eq_iff_iff, List.any_eq_true, decide_eq_true_iff]
    constructor
    · rintro ⟨y, _, h⟩
      obtain ⟨p, mp, _, _, _, _, h⟩ := of_decide_eq_true h
      exact ⟨p, mp, h⟩
    · rintro ⟨p, mp, h⟩
      obtain ⟨i, hi⟩ := List.getElem?_of_mem mp
      obtain ⟨v, hv, t, rfl, ht⟩ := prd_at2 P hi
      obtain ⟨u, hu1, ru⟩ := Vals.get V1 hv
      cases (show u = Value.ref t from ru)
      exact ⟨_, List.mem_of_getElem? hu1, decide_eq_true ⟨p, mp, rfl, t, rfl, ht, h⟩⟩
open Classical in
theorem op_notInAsk (hu : X.A.units + 64 < cLine) : OpR X (compareOp .NotIn) (rAskIn true) := by
  intro pins s σ H x y v u Q I rx ry h
  obtain ⟨A0, l, ps, rfl, D, A, fl, q⟩ := h
  cases (show u = Value.ref l from ry)
  obtain ⟨us, e, P⟩ := A.ex
  obtain ⟨its, r, p, _⟩ := I.list (SqL.of (K := X.K) e)
  obtain ⟨h1, h2⟩ := ask_items (A := X.A) I D rx (by omega) P r fl
  refine notIn_listAt _ p.isList (fun z m => h1 z (by simpa using m)) ?_
  rw [List.any_toArray, h2]
  exact ⟨.bl (!decide (∃ p ∈ ps, IsAsk H x p)), H, I, rfl, by simpa using q⟩
open Classical in
theorem op_inAsk (hu : X.A.units + 64 < cLine) : OpR X (compareOp .In) (rAskIn false) := by
  intro pins s σ H x y v u Q I rx ry h
  obtain ⟨A0, l, ps, rfl, D, A, fl, q⟩ := h
  cases (show u = Value.ref l from ry)
  obtain ⟨us, e, P⟩ := A.ex
  obtain ⟨its, r, p, _⟩ := I.list (SqL.of (K := X.K) e)
  obtain ⟨h1, h2⟩ := ask_items (A := X.A) I D rx (by omega) P r fl
  refine in_listAt _ p.isList (fun z m => h1 z (by simpa using m)) ?_
  rw [List.any_toArray, h2]
  exact ⟨.bl (decide (∃ p ∈ ps, IsAsk H x p)), H, I, rfl, by simpa using q⟩
end
end Toy

namespace Toy
open PySem PySem.Spec PyProof.Rows L2
/-! what is never come to; a display with one nested key; classes with defaults -/
def tNever : TE := fun _ _ _ => False
theorem pe_never {X : Cx} {e : Expr} : PE X e tNever := ⟨fun _ _ _ _ _ _ h => h.elim⟩
/-- a new dict that is walked, and asked for no more: it stays locked -/
def tFrz (te : TE) : TE := fun σ H Q => te σ H fun x H1 => ∃ d kvs, x = .ref d ∧ H1 d = some (.dK kvs) ∧ ∀ od, Q x (upd H1 d (.frz od (.dK kvs)))
theorem pe_frz {X : Cx} {e : Expr} {te : TE} (he : PE X e te) : PE X e (tFrz te) := by
  refine ⟨fun pins s σ H Q I h => ?_⟩
  refine thn (he.run pins s σ H _ I h) fun u s1 ⟨x, H1, I1, rx, d, kvs, ex, hd, q⟩ => ?_
  obtain ⟨od, I2⟩ := I1.lock hd True.intro
  exact ⟨x, _, I2, rx, q od⟩
def tNdOne (P : Program) (w : World) (tk tv : TE) : TE := fun σ H Q => ∀ p, H p = none → tk σ (upd H p (.dK [])) fun x H1 => tv σ H1 fun y H2 => ∃ k b, x = .ref b ∧ H2 p = some (.dK []) ∧ KeyIs H2 (.ref b) k ∧ k.depth ≤ 8 ∧ Q (.ref p) (upd H2 p (NdO P w p [(k, b, y)]))
theorem pe_ndone {X : Cx} {k v : Expr} {pos : Pos} {tk tv : TE} (hu : X.A.units + 64 < cLine) (hk : PE X k tk) (hv : PE X v tv) : PE X (.Dict [some k] [v] pos) (tNdOne X.prog X.w tk tv) := by
  refine ⟨fun pins s σ H Q I q => ?_⟩
  have free := I.hok.fresh (Nat.le_refl s.heap.objs.size)
  have J := I.laid (a := s.heap.objs.size) (o := .dK []) (h' := s.heap.push { cls := .type "dict", data := .dict #[] }) (t' := s.toks) (fun _ _ e => Heap.get?_push_of_some _ e) (Nat.le_refl _) (dk_empty s.heap I.big)
  have q := q _ free
  have room : (nestedKind X.prog X.w).room X.A := by
    show X.A.units + 8 < cLine
    omega
  rw [arm_eval_Dict, zip_pairTrees [some k] [v] X.env pos rfl rfl, dictDisplay_pairs _ (by simp [pairTrees]) (by simp [pairTrees])]
  refine wpAny_bind (wpAny_standAt (wpAny_bind (wpAny_subDictH (knd := nestedKind X.prog X.w) room (by simp [pairTrees]) ?_)))
  refine pairTrees_cons_walk (thn (hk.run pins _ σ _ _ J q) fun u s1 ⟨x, H1, I1, rx, q1⟩ => thn (hv.run pins s1 σ H1 _ I1 q1) fun uv s2 ⟨y, H2, I2, ry, kk, b, ex, e0, ky, dp, q2⟩ => pairTrees_nil_walk ?_)
  subst ex
  cases (show u = Value.ref b from rx)
  obtain ⟨z, hd, ys, rel, dd⟩ := nd_of I2 (.inl ⟨rfl, e0⟩)
  cases rel
  refine ⟨[(kk, b, uv)], ⟨rfl, rfl, nd_key I2 ky dp, True.intro⟩, dd, fun h' tk dd' hs => wpAny_pure ⟨.ref s.heap.objs.size, _, ?_, rfl, q2⟩⟩
  obtain ⟨o, es, ep, h1, h2, h3, h4, _, h5⟩ := dd'
  refine d_write I2 (by rw [e0]; exact True.intro) hs ⟨o, h1⟩ ⟨⟨(by show 1 ≤ sizeLine; decide), hd, [(kk, b, uv)], .cons ⟨rfl, rfl, ry⟩ .nil, o, es, ep, h1, h2, h3, h4, h5⟩, ⟨o, h1⟩, fun g1 g2 ⟨r1, r2, r3, r4, o', es', ep', r5, r6⟩ kp => ⟨r1, r2, r3, r4, o', es', ep', kp _ r5, r6⟩⟩
theorem call_lenN {X : Cx} : CallR X (.builtin "len") (fun xs H Q => ∃ a es, xs = [V.ref a] ∧ NdAt X.prog X.w H a es ∧ Q (.int es.length) H) := by
  intro pins s σ H xs us Q I r h
  obtain ⟨a, es, rfl, ha, q⟩ := h
  obtain ⟨u, rfl, ru⟩ := vals1 r
  cases (show u = Value.ref a from ru)
  obtain ⟨z, hd, ys, rel, dd⟩ := nd_of I ha
  have hl := Paired.length rel
  refine PyProof.Rows.call_len_slot (n := (ys.length : Int)) (nd_typeIs I ha) PySem.F.slot_dict_len (fun Q' q' => len_keyed hd ⟨ys, dd, rfl⟩ (by rw [pairsH_length]; exact q')) (by omega) (by rw [sizeLine_eq] at z; omega) ?_
  rw [← hl]
  exact ⟨.int es.length, H, I.tok _, ⟨_, rfl⟩, q⟩
/-- what such a display is -/
theorem NdAt.one {P : Program} {w : World} {H : Hp} {p b : Addr} {k : NK} {y : V} (hp : H p = some (.dK [])) (ky : KeyIs H (.ref b) k) (dp : k.depth ≤ 8) : NdAt P w (upd H p (NdO P w p [(k, b, y)])) p [(k, b, y)] :=
  NdAt.put (xs := []) (.inl ⟨rfl, hp⟩) ky dp
/-- such a dict where nothing but tuples must stay -/
theorem NdAt.go {P : Program} {w : World} {H G : Hp} {d : Addr} {xs : List NEnt} (a : NdAt P w H d xs) (e : G d = H d) (hk : ∀ a ys, H a = some (.tup ys) → G a = some (.tup ys)) : NdAt P w G d xs := by
  rcases a with ⟨z, h⟩ | ⟨h, n⟩
  · exact .inl ⟨z, e.trans h⟩
  · exact .inr ⟨e.trans h, n.firm hk⟩
section
variable {P : Program} {w : World} {K : PySem.W.Frag} {mg : Str → Option Value} {base : Heap}
structure ClsInitD (K : PySem.W.Frag) (C : Addr) (qual : Str) (st : Stmt) (ps : List Str) (dvs : List V) : Prop where
  h : ∃ (f : Addr) (fd : FuncData) (ds : List Value), Mk K C f ∧ FunD K "__init__" qual (defArgs st) (defBody st) (defScope st) dvs [] f fd ∧ Vals dvs ds ∧ Binds K fd ps ds
def OkID (P : Program) (w : World) (K : PySem.W.Frag) (mg : Str → Option Value) (base : Heap) (CX : CXT) (k : Nat) (x : Str) (C : Addr) (ps : List Str) (dvs : List V) (sp : Sp) : Prop :=
  ∃ (f : Addr) (fd : FuncData) (ds : List Value), mg x = some (.ref C) ∧ Mk K C f ∧ Vals dvs ds ∧ Binds K fd ps ds ∧ FnOk P w K mg base CX k f fd ps sp
theorem okID_of {x qual : Str} {C : Addr} {st : Stmt} {N ps : List Str} {dvs : List V} {k : Nat} {sp : Sp} (hm : mg x = some (.ref C)) (D : ClsInitD K C qual st ps dvs) (S : FnScope N ps (defScope st)) (len : ∀ vs H Q E, sp vs H Q E → vs.length = ps.length)
    (hbody : ∀ (f : Addr) (cdv : Value) (A : Around) (outer : List Env) (s : Shared) (H : Hp) (vs : List V) (Q : VK) (E : XK), Room k (A.deeper (envOfC qual (defScope st) s.heap.objs.size f cdv)) → sp vs H Q E →
      ∃ t, PSs (cxOf CX0 P w K mg base N qual (defScope st) f cdv A outer s H E) (defBody st) t ∧ t { nx := fun _ H' => Q .non H', rt := Q } (start N vs) H) : OkID P w K mg base CX0 (k + 1) x C ps dvs sp := by
  obtain ⟨f, fd, ds, M, F, r, b⟩ := D.h
  exact ⟨f, fd, ds, hm, M, r, b, F.ok S len fun cdv A outer s H vs Q E hr h => hbody f cdv A outer s H vs Q E hr h⟩
theorem init_atD {C qual : Str} {st : Stmt} {ps : List Str} {dvs : List V} (n : Nat) (g : (He.Fa.mkr C).ok K = true) (c : ∃ fd, FunD K "__init__" qual (defArgs st) (defBody st) (defScope st) dvs [] (He.ma K (He.ga K C) "__init__") fd) (hd : dvs ≠ []) (hn : n + (dvs.length - 0) = ps.length)
    (h : ∀ (T : Addr) (kV doc pm : Value) (an : Option Addr) (cdv ct : Value) (us its : List Value), us.length = n → its.length = dvs.length →
      ∃ k, bindArgs (PySem.W.fnOf "__init__" qual (defArgs st) (defBody st) (defScope st) (.ref T) kV doc pm an cdv ct) ⟨us, []⟩ = seqItems? (.ref T) >>= k ∧ k (some its.toArray) = pure (ps.zip (us ++ its.drop 0))) : ClsInitD K (He.ga K C) qual st ps dvs := by
  obtain ⟨fd, F⟩ := c
  obtain ⟨ds, r, b⟩ := F.binds1 n 0 hd hn h
  exact ⟨_, fd, ds, He.mkr_ok g, F, r, b⟩
end
end Toy

/-! == and != of dicts whose values are flat tuples; != of tuples whose items are equal -/
namespace Toy
open PySem PySem.Spec PyProof.Rows L2
open PySem.SeqAt MeetsSeq
/-- two tuples of flat things with the same items -/
def FlT (H : Hp) (x y : V) : Prop := ∃ t u xs, x = V.ref t ∧ y = V.ref u ∧ H t = some (.tup xs) ∧ H u = some (.tup xs) ∧ ∀ v ∈ xs, flatB v = true
section
variable {X : Cx} {pins : List (Addr × Obj)} {σ : L2.St} {H : Hp} {s : Shared}
theorem FlT.eqAt (I : Inv X pins σ H s) {A : Around} (hu : A.units < cLine) {x y : V} {v u : Value} (h : FlT H x y) (rx : RelV x v) (ry : RelV y u) : EqAt A s v u true := by
  obtain ⟨t, t2, xs, rfl, rfl, h1, h2, fl⟩ := h
  cases (show v = Value.ref t from rx)
  cases (show u = Value.ref t2 from ry)
  by_cases e : t = t2
  · subst e; exact EqAt.same _
  obtain ⟨us, r1, p1, _⟩ := I.tuple (SqT.of (K := X.K) h1)
  obtain ⟨ws, r2, p2, _⟩ := I.tuple (SqT.of (K := X.K) h2)
  have hsz : us.toArray.size = ws.toArray.size := by rw [List.size_toArray, List.size_toArray, ← r1.length, ← r2.length]
  have it : ∀ j (j1 : j < us.toArray.size) (j2 : j < ws.toArray.size), EqAt A.in1 s us.toArray[j] ws.toArray[j] true := by
    intro j j1 j2
    have l1 : j < us.length := by simpa using j1
    have l2 : j < ws.length := by simpa using j2
    have lx : j < xs.length := by rw [r1.length]; exact l1
    have a1 : RelV xs[j] us[j] := by
      obtain ⟨v, hv, rv⟩ := Vals.get r1 (List.getElem?_eq_getElem lx)
      rw [List.getElem?_eq_getElem l1] at hv
      cases hv; exact rv
    have a2 : RelV xs[j] ws[j] := by
      obtain ⟨v, hv, rv⟩ := Vals.get r2 (List.getElem?_eq_getElem lx)
      rw [List.getElem?_eq_getElem l2] at hv
      cases hv; exact rv
    simpa using eqAt_same a1 a2 (fl _ (List.getElem_mem lx))
  have k := RcAt.tuples (A := A) (e := fun _ => true) p1 p2 hu it
  have e1 : ((List.range (min us.toArray.size ws.toArray.size)).all (fun _ => true) && us.toArray.size == ws.toArray.size) = true := by
    rw [hsz]; simp
  rw [e1] at k
  exact EqAt.of_refs e k
theorem hits_flT (I : Inv X pins σ H s) {A : Around} (hu : A.units < cLine) {ls : List (Key × V)} {vb : List (Key × Value)} (rb : KV ls vb) {ks : List (Key × V)} {va : List (Key × Value)} (ra : KV ks va) :
    (∀ p ∈ ks, ∃ u, valV ls p.1 = some u ∧ FlT H p.2 u) → PySem.W.KeqHits A s vb va true := by
  unfold KV at ra
  induction ra with
  | nil => exact fun _ => .nil
  | @cons p q ps qs h _ ih =>
    intro hp
    obtain ⟨hk, hv⟩ := h
    obtain ⟨u, e, f⟩ := hp p List.mem_cons_self
    have rr : RelO (some u) (valueAt vb p.1) := by rw [← e]; exact rb.val p.1
    obtain ⟨y, hy, ry⟩ := rr.some_of
    obtain ⟨key, v⟩ := q
    obtain rfl : p.1 = key := hk
    have k := ih fun x m => hp x (List.mem_cons_of_mem _ m)
    have := PySem.W.KeqHits.hit (K := Key) hy (f.eqAt I hu hv ry) k
    exact this
end
section
variable {X : Cx}
/-- two dicts with the same keys, whose values are flat tuples with the same items -/
def rDkT (b : Bool) : R2 := fun x y H Q => ∃ a c ks ls, x = V.ref a ∧ y = V.ref c ∧ H a = some (.dK ks) ∧ H c = some (.dK ls) ∧ ks.length = ls.length ∧ (∀ p ∈ ks, ∃ u, valV ls p.1 = some u ∧ FlT H p.2 u) ∧ Q (.bl b) H
theorem op_eqDkT (hu : X.A.units + 64 < cLine) : OpR X (compareOp .Eq) (rDkT true) := by
  intro pins s σ H x y v u Q I rx ry h
  obtain ⟨a, c, ks, ls, rfl, rfl, ha, hc, hl, hp, q⟩ := h
  cases (show v = Value.ref a from rx)
  cases (show u = Value.ref c from ry)
  obtain ⟨_, ya, va, ra, da⟩ := (show ObjOk X.prog X.w H s.heap a (.dK ks) from I.hok a _ ha)
  obtain ⟨_, yb, vb, rb, db⟩ := (show ObjOk X.prog X.w H s.heap c (.dK ls) from I.hok c _ hc)
  have e : va.length = vb.length := by rw [← ra.length, ← rb.length]; exact hl
  exact PySem.W.keq_eq (knd := mixKind X.prog X.w) (r := true) ya yb da db (by omega) (fun _ => hits_flT I (by show X.A.units + 1 < cLine; omega) rb ra hp) ⟨.bl true, H, I, (by simp [e]; rfl), q⟩
theorem op_neDkT (hu : X.A.units + 64 < cLine) : OpR X (compareOp .NotEq) (rDkT false) := by
  intro pins s σ H x y v u Q I rx ry h
  obtain ⟨a, c, ks, ls, rfl, rfl, ha, hc, hl, hp, q⟩ := h
  cases (show v = Value.ref a from rx)
  cases (show u = Value.ref c from ry)
  obtain ⟨_, ya, va, ra, da⟩ := (show ObjOk X.prog X.w H s.heap a (.dK ks) from I.hok a _ ha)
  obtain ⟨_, yb, vb, rb, db⟩ := (show ObjOk X.prog X.w H s.heap c (.dK ls) from I.hok c _ hc)
  have e : va.length = vb.length := by rw [← ra.length, ← rb.length]; exact hl
  exact PySem.W.keq_ne (knd := mixKind X.prog X.w) (r := true) ya yb da db (by omega) (fun _ => hits_flT I (by show X.A.units + 1 < cLine; omega) rb ra hp) ⟨.bl false, H, I, (by simp [e]; rfl), q⟩
end
section
variable {P : Program} {w : World}
open AutoSeq1 (wpAny_loadPart')
/-- what != of two tuples does when their items are equal one by one: it goes through all pairs -/
theorem ne_pairs (l b : Addr) (ys zs : Array Value) (n n2 : Nat) (dd dd2 : Option Addr) (sl sl2 : Array (Option Value)) :
    MeetsIn P w (Builtin.«tuple.__ne__» ⟨[.ref l, .ref b], []⟩) fun A R s =>
      (s.heap.get? l = some { cls := .type "tuple", dict := dd, data := .seq ys n, slots := sl } ∧ s.heap.get? b = some { cls := .type "tuple", dict := dd2, data := .seq zs n2, slots := sl2 } ∧ ys.size = zs.size) ∧
      (∀ p ∈ ys.toList.zip zs.toList, EqP P w A.in1 s p.1 p.2 true) ∧ R (.ok (.ret (.bool false))) s := by
  refine .of_wp fun A R s ⟨⟨hl, hb, sz⟩, eqs, r⟩ => ?_
  obtain ⟨hp, g, d, tk, os⟩ := s
  have f2 := AutoSeq1.sub_tuple_tuple
  wp_walk using wpAny_loadPart' hl, wpAny_loadPart' hb, wpAny_forIn_list _ (fun rest c t => c.1 = none ∧ t = ⟨hp, g, d, tk, os⟩ ∧ ∃ gone, gone ++ rest = ys.toList.zip zs.toList) _
  case turn =>
    rintro ⟨y, z⟩ rest c t ⟨hc, rfl, gone, e⟩
    refine wpAny_bind (eqs (y, z) (e ▸ List.mem_append_right _ List.mem_cons_self) _ _ ?_)
    wp_walk
    exact ⟨rfl, rfl, gone ++ [(y, z)], by rw [List.append_assoc]; exact e⟩
  case fin =>
    rintro ⟨c, c2⟩ t ⟨hc, rfl, _⟩
    cases (show c = none from hc)
    wp_walk
    exact ⟨_, rfl, by simpa [Builtin.Tuple.tupleCompareSizes, bne, sz] using r⟩
  case h => exact ⟨rfl, rfl, [], rfl⟩
end
section
variable {X : Cx}
/-- two tuples whose items are equal one by one (lists and dicts of equal things among them) -/
def rNeTV (K : PySem.W.Frag) : R2 := fun x y H Q => ∃ n a c xs ys, n ≤ 60 ∧ x = V.ref a ∧ y = V.ref c ∧ SqT K H a xs ∧ SqT K H c ys ∧ Paired (EqV K H n) xs ys ∧ Q (.bl false) H
theorem op_neTV (hu : X.A.units + 64 < cLine) : OpR X (compareOp .NotEq) (rNeTV X.K) := by
  intro pins s σ H x y v u Q I rx ry h
  obtain ⟨n, a, c, xs, ys, hn, rfl, rfl, ha, hc, hp, q⟩ := h
  cases (show v = Value.ref a from rx)
  cases (show u = Value.ref c from ry)
  obtain ⟨us, r1, p1, _⟩ := I.tuple ha
  obtain ⟨ws, r2, p2, _⟩ := I.tuple hc
  have sz : us.toArray.size = ws.toArray.size := by
    rw [List.size_toArray, List.size_toArray, ← r1.length, ← r2.length]
    exact Paired.length hp
  have it := items_run (fun x y v u => eqV_run I n X.A.in1 (by show X.A.units + 1 + n < cLine; omega) x y v u) hp r1 r2
  have prs : ∀ p ∈ us.zip ws, EqP X.prog X.w X.A.in1 s p.1 p.2 true := by
    intro p m
    obtain ⟨j, hj⟩ := List.getElem?_of_mem m
    obtain ⟨e1, e2⟩ := List.getElem?_zip_eq_some.mp hj
    obtain ⟨l1, g1⟩ := List.getElem?_eq_some_iff.mp e1
    obtain ⟨l2, g2⟩ := List.getElem?_eq_some_iff.mp e2
    rw [← g1, ← g2]
    exact it j l1 l2
  obtain ⟨⟨cls, dd, data, sl⟩, ho, hc1, m1, hd⟩ := p1
  obtain ⟨⟨cls2, dd2, data2, sl2⟩, ho2, hc2, m2, hd2⟩ := p2
  simp only at hc1 hd hc2 hd2
  subst hc1 hd hc2 hd2
  have ta : s.TypeIs (.ref a) "tuple" := ⟨_, ho, rfl⟩
  have tb : s.TypeIs (.ref c) "tuple" := ⟨_, ho2, rfl⟩
  exact wpAny_richCompare_same_room (op := .NotEq) ta tb F.slot_tuple_ne (call_meetsIn F.slot_tuple_ne ta F.entry_tuple_ne (F.args_tuple_ne_2 _ _) (ne_pairs a c us.toArray ws.toArray m1 m2 dd dd2 sl sl2)
    ⟨⟨ho, ho2, sz⟩, by simpa using prs, (fun z => nomatch z), ⟨.bl false, H, I, rfl, q⟩⟩) (by omega)
end
end Toy

/-! == of tuples and dicts, nested, with either answer -/
namespace Toy
open PySem PySem.Spec PyProof.Rows L2
open PySem.SeqAt (EqAt)
open PySem.W (EqTree)
/-- a whole number or None -/
def numV : V → Bool
  | .non => true
  | .int _ => true
  | _ => false
/-- what a comparison of nested things answers -/
inductive ETr (K : PySem.W.Frag) (H : Hp) : Nat → V → V → Bool → Prop
  | flat {n : Nat} {x y : V} : numV x = true → numV y = true → ETr K H n x y (decide (x = y))
  | same {n : Nat} {a : Addr} : ETr K H n (.ref a) (.ref a) true
  | tups {n : Nat} {a b : Addr} {xs ys : List V} {e : Nat → Bool} : a ≠ b → SqT K H a xs → SqT K H b ys → (∀ (j : Nat) x y, xs[j]? = some x → ys[j]? = some y → ETr K H n x y (e j)) →
      ETr K H (n + 1) (.ref a) (.ref b) ((List.range (min xs.length ys.length)).all e && xs.length == ys.length)
  | dicts {n : Nat} {a b : Addr} {ks ls : List (Key × V)} {e : Key → Bool} : a ≠ b → H a = some (.dK ks) → H b = some (.dK ls) → (∀ p ∈ ks, ∀ u, valV ls p.1 = some u → ETr K H n p.2 u (e p.1)) →
      ETr K H (n + 1) (.ref a) (.ref b) (ks.length == ls.length && ks.all fun p => (valV ls p.1).isSome && e p.1)
theorem num_eqAt {A : Around} {s : Shared} {x y : V} {v u : Value} (hx : numV x = true) (hy : numV y = true) (rx : RelV x v) (ry : RelV y u) : EqAt A s v u (decide (x = y)) := by
  cases x with
  | non =>
    cases (show v = Value.none from rx)
    cases y with
    | non => cases (show u = Value.none from ry); exact (EqAt.same _).cast (by simp)
    | int j => obtain ⟨t, rfl⟩ := (show ∃ t, u = Value.int j t from ry); exact (EqAt.none_int j t).cast (by simp)
    | _ => cases hy
  | int i =>
    obtain ⟨t, rfl⟩ := (show ∃ t, v = Value.int i t from rx)
    cases y with
    | non => cases (show u = Value.none from ry); exact (EqAt.int_none i t).cast (by simp)
    | int j =>
      obtain ⟨t2, rfl⟩ := (show ∃ t, u = Value.int j t from ry)
      refine (EqAt.int_int i t j t2).cast ?_
      rw [Bool.eq_iff_iff, beq_iff_eq, decide_eq_true_iff]
      exact ⟨fun e => by rw [e], fun e => by injection e⟩
    | _ => cases hy
  | _ => cases hx
theorem kv_all {ks : List (Key × V)} {va : List (Key × Value)} {ls : List (Key × V)} {vb : List (Key × Value)} (ra : KV ks va) (rb : KV ls vb) (e : Key → Bool) :
    (va.all fun p => (valueAt vb p.1).isSome && e p.1) = ks.all fun p => (valV ls p.1).isSome && e p.1 := by
  unfold KV at ra
  induction ra with
  | nil => rfl
  | @cons p q ps qs h _ ih =>
    obtain ⟨hk, _⟩ := h
    have r := rb.val p.1
    have i : (valueAt vb q.1).isSome = (valV ls p.1).isSome := by
      have hk : p.1 = q.1 := hk
      rw [← hk]
      cases h1 : valV ls p.1 with
      | none => rw [h1] at r; rw [r.none_of]; rfl
      | some u => rw [h1] at r; obtain ⟨y, hy, _⟩ := r.some_of; rw [hy]; rfl
    rw [List.all_cons, List.all_cons, i, ih, show p.1 = q.1 from hk]
section
variable {X : Cx} {pins : List (Addr × Obj)} {σ : L2.St} {H : Hp} {s : Shared}
theorem tup_sides {K : PySem.W.Frag} {n : Nat} {R : V → V → Bool → Prop} {xs ys : List V} {us ws : List Value} {e : Nat → Bool} (r1 : Vals xs us) (r2 : Vals ys ws) (h : ∀ (j : Nat) x y, xs[j]? = some x → ys[j]? = some y → R x y (e j))
    {T : Value → Value → Bool → Prop} (run : ∀ x y b v u, R x y b → RelV x v → RelV y u → T v u b) : ∀ j (h1 : j < us.toArray.size) (h2 : j < ws.toArray.size), T us.toArray[j] ws.toArray[j] (e j) := by
  intro j j1 j2
  have l1 : j < us.length := by simpa using j1
  have l2 : j < ws.length := by simpa using j2
  have x1 : j < xs.length := by rw [r1.length]; exact l1
  have x2 : j < ys.length := by rw [r2.length]; exact l2
  obtain ⟨v, hv, rv⟩ := Vals.get r1 (List.getElem?_eq_getElem x1)
  obtain ⟨u, hu, ru⟩ := Vals.get r2 (List.getElem?_eq_getElem x2)
  rw [List.getElem?_eq_getElem l1] at hv
  rw [List.getElem?_eq_getElem l2] at hu
  have := run _ _ _ _ _ (h j _ _ (List.getElem?_eq_getElem x1) (List.getElem?_eq_getElem x2)) rv ru
  rw [← Option.some.inj hv, ← Option.some.inj hu] at this
  simpa using this
theorem dict_sides {R : V → V → Bool → Prop} {T : Value → Value → Bool → Prop} {ks ls : List (Key × V)} {va vb : List (Key × Value)} {e : Key → Bool} (ra : KV ks va) (rb : KV ls vb) (h : ∀ p ∈ ks, ∀ u, valV ls p.1 = some u → R p.2 u (e p.1))
    (run : ∀ x y b v u, R x y b → RelV x v → RelV y u → T v u b) : ∀ k v y, (k, v) ∈ va → valueAt vb k = some y → T v y (e k) := by
  intro k v y m hy
  obtain ⟨i, hi⟩ := List.getElem?_of_mem m
  obtain ⟨p, hp, hk, hv⟩ := prd_at2 (show Paired _ ks va from ra) hi
  have hk : p.1 = k := hk
  have r := rb.val p.1
  rw [hk, hy] at r
  obtain ⟨u, hu, ru⟩ : ∃ u, valV ls k = some u ∧ RelV u y := by
    cases h1 : valV ls k with
    | none => rw [h1] at r; cases r.none_of
    | some u =>
      rw [h1] at r
      obtain ⟨y', e1, r'⟩ := r.some_of
      cases e1
      exact ⟨u, rfl, r'⟩
  have := run _ _ _ _ _ (h p (List.mem_of_getElem? hp) u (by rw [hk]; exact hu)) hv ru
  rw [hk] at this
  exact this
theorem ETr.tree (I : Inv X pins σ H s) {n : Nat} {x y : V} {b : Bool} (t : ETr X.K H n x y b) : ∀ v u, RelV x v → RelV y u → EqTree X.prog X.w s n v u b := by
  induction t with
  | flat hx hy => exact fun v u rx ry => .leaf fun A _ => num_eqAt hx hy rx ry
  | same =>
    intro v u rx ry
    cases (show v = Value.ref _ from rx)
    cases (show u = Value.ref _ from ry)
    exact .same
  | @tups n a b xs ys e ne ha hb _ ih =>
    intro v u rx ry
    cases (show v = Value.ref a from rx)
    cases (show u = Value.ref b from ry)
    obtain ⟨us, r1, p1, _⟩ := I.tuple ha
    obtain ⟨ws, r2, p2, _⟩ := I.tuple hb
    have k := EqTree.tuples (n := n) ne p1 p2 (tup_sides (K := X.K) (n := n) (R := fun x y b => ∀ v u, RelV x v → RelV y u → EqTree X.prog X.w s n v u b) r1 r2 (fun j x y h1 h2 => ih j x y h1 h2) (T := EqTree X.prog X.w s n) fun x y b v u r rv ru => r v u rv ru)
    rw [List.size_toArray, List.size_toArray, ← r1.length, ← r2.length] at k
    exact k
  | @dicts n a b ks ls e ne ha hb _ ih =>
    intro v u rx ry
    cases (show v = Value.ref a from rx)
    cases (show u = Value.ref b from ry)
    obtain ⟨_, ya, va, ra, da⟩ := (show ObjOk X.prog X.w H s.heap a (.dK ks) from I.hok a _ ha)
    obtain ⟨_, yb, vb, rb, db⟩ := (show ObjOk X.prog X.w H s.heap b (.dK ls) from I.hok b _ hb)
    have k := EqTree.dicts (n := n) (e := e) ne ya yb da db (dict_sides (R := fun x y b => ∀ v u, RelV x v → RelV y u → EqTree X.prog X.w s n v u b) ra rb (fun p m u hu => ih p m u hu) (T := EqTree X.prog X.w s n) fun x y b v u r rv ru => r v u rv ru)
    rw [kv_all ra rb, ← ra.length, ← rb.length] at k
    exact k
end
section
variable {X : Cx}
/-- two other tuples or dicts, compared item by item -/
def rEqT (K : PySem.W.Frag) : R2 := fun x y H Q => ∃ n b, n ≤ 60 ∧ ETr K H n x y b ∧ (∃ a c, a ≠ c ∧ x = .ref a ∧ y = .ref c) ∧ Q (.bl b) H
theorem op_eqT (hu : X.A.units + 64 < cLine) : OpR X (compareOp .Eq) (rEqT X.K) := by
  intro pins s σ H x y v u Q I rx ry h
  obtain ⟨n, b, hn, t, ⟨a, c, ne, rfl, rfl⟩, q⟩ := h
  cases (show v = Value.ref a from rx)
  cases (show u = Value.ref c from ry)
  cases t with
  | flat hx _ => cases hx
  | same => exact absurd rfl ne
  | @tups n _ _ xs ys e _ ha hb it =>
    obtain ⟨us, r1, p1, _⟩ := I.tuple ha
    obtain ⟨ws, r2, p2, _⟩ := I.tuple hb
    refine PySem.W.eq_tuplesT (n := n) (e := e) p1 p2 (tup_sides (K := X.K) (n := n) r1 r2 it (T := EqTree X.prog X.w s n) fun x y b v u r rv ru => r.tree I v u rv ru) (by omega) ⟨.bl _, H, I, rfl, ?_⟩
    rw [List.size_toArray, List.size_toArray, ← r1.length, ← r2.length]
    exact q
  | @dicts n _ _ ks ls e _ ha hb it =>
    obtain ⟨_, ya, va, ra, da⟩ := (show ObjOk X.prog X.w H s.heap a (.dK ks) from I.hok a _ ha)
    obtain ⟨_, yb, vb, rb, db⟩ := (show ObjOk X.prog X.w H s.heap c (.dK ls) from I.hok c _ hb)
    refine PySem.W.eq_dictsT (n := n) (e := e) ya yb da db (dict_sides ra rb it (T := EqTree X.prog X.w s n) fun x y b v u r rv ru => r.tree I v u rv ru) (by omega) ⟨.bl _, H, I, rfl, ?_⟩
    rw [kv_all ra rb, ← ra.length, ← rb.length]
    exact q
end
end Toy

/-! == and != of two instances by the own __eq__ of their class, with either answer -/
namespace Toy
open PySem PySem.Spec PyProof.Rows L2
/-- what an own __eq__ promises: an answer that is told by R -/
def spCmp (R : Addr → Addr → Hp → Bool → Prop) : Sp := fun vs H Q _ => ∃ a b k, vs = [.ref a, .ref b] ∧ R a b H k ∧ ∀ H', L2.Ext H H' → Q (.bl k) H'
/-- the class at C leaves != to object -/
structure NoNe (K : PySem.W.Frag) (C : Addr) : Prop where
  ne : PySem.W.findIn K (.ref C) "__ne__" = some (some (.builtin "object.__ne__"))
  obj : PySem.W.mroIn K C (.type "object") = some true
/-- its flag in a head -/
def noneB (K : PySem.W.Frag) (x : Str) : Bool := decide ((PySem.W.findIn K (.ref (He.ga K x)) "__ne__", PySem.W.mroIn K (He.ga K x) (.type "object")) = (some (some (.builtin "object.__ne__")), some true))
theorem noneB_ok {K : PySem.W.Frag} {x : Str} (h : noneB K x = true) : NoNe K (He.ga K x) :=
  ⟨congrArg (·.1) (of_decide_eq_true h), congrArg (·.2) (of_decide_eq_true h)⟩
section
variable {prog : Program} {w : World} {A : Around} {E : Value → Shared → Prop} {s : Shared} {K : PySem.W.Frag} {x y C f : Addr} {ox oy : Obj} {od od' : Option Obj}
/-- object's own __ne__ turns what __eq__ answers round -/
theorem objNe_by (X : K.In s.heap) (I : PySem.W.InstAt s.heap x ox C od) (hs : PySem.W.findIn K (.ref C) "__eq__" = some (some (.ref f))) (hf : PySem.W.isFn K (.ref f) = true) (hu : A.units < cLine) {Q : Fin → Shared → Prop} {k : Bool} {J : Shared → Prop}
    (run : wpAny (model prog w) A (call (.ref f) [.ref x, .ref y]) (fun v t => v = .bool k ∧ J t) E s) (q : ∀ t, J t → Q (.done (.ret (.bool (!k)))) t) : wpAny (model prog w) A (Builtin.«object.__ne__» ⟨[.ref x, .ref y], []⟩) Q E s := by
  unfold Builtin.«object.__ne__»
  have asks : wpAny (model prog w) A (callSpecialIfBound? (.ref x) "__eq__" [.ref y]) (fun r t => r = some (.bool k) ∧ J t) E s :=
    PySem.W.ifBound_K X I hs hf (wpAny_mono run (fun v t ⟨e, j⟩ => ⟨by rw [e], j⟩) fun _ _ e => e)
  repeat (first
    | with_reducible refine wpAny_cRoomFor hu ?_
    | (refine wpAny_bind (m := callSpecialIfBound? (.ref x) "__eq__" [.ref y]) (wpAny_mono asks (fun r t z => ?_) fun _ _ e => e); obtain ⟨rfl, j⟩ := z)
    | (refine wpAny_bind (m := truthy (.bool _)) (wpAny_truthy_bool ?_))
    | wp_step)
  exact q _ j
/-- != of two instances of a class without an own __ne__ -/
theorem ne_by (X : K.In s.heap) (I : PySem.W.InstAt s.heap x ox C od) (I' : PySem.W.InstAt s.heap y oy C od') (N : NoNe K C) (hs : PySem.W.findIn K (.ref C) "__eq__" = some (some (.ref f))) (hf : PySem.W.isFn K (.ref f) = true) (hu : A.units + 1 < cLine) {Q : Value → Shared → Prop} {k : Bool} {J : Shared → Prop}
    (run : wpAny (model prog w) A.in1 (call (.ref f) [.ref x, .ref y]) (fun v t => v = .bool k ∧ J t) E s) (q : ∀ t, J t → Q (.bool (!k)) t) : wpAny (model prog w) A (richCompare .NotEq (.ref x) (.ref y)) Q E s := by
  have slot : wpAny (model prog w) A (call (.builtin "object.__ne__") [.ref x, .ref y]) (fun v t => v = .bool (!k) ∧ J t) E s :=
    wpAny_call (codeAny_call_builtin F.cmp_object.ne.plain F.cmpEntry_ne (PySem.W.check_slot F.cmpKind_ne F.cmpSplit_ne (I.type.andThen (PySem.W.looks_mroIn X N.obj)) (F.cmpArgs_ne _ _)
      (objNe_by (A := A.in1) X I hs hf hu run fun t j => ⟨rfl, j⟩)))
  have found : wpAny (model prog w) A (callSpecialIfBound? (.ref x) "__ne__" [.ref y]) (fun r t => r = some (.bool (!k)) ∧ J t) E s := by
    have tail : wpAny (model prog w) A (call (.builtin "object.__ne__") ([.ref x] ++ [.ref y]) >>= fun v => pure (some v)) (fun r t => r = some (.bool (!k)) ∧ J t) E s :=
      wpAny_bind (wpAny_mono slot (fun v t ⟨e, j⟩ => wpAny_pure ⟨by rw [e], j⟩) fun _ _ e => e)
    simp only [callSpecialIfBound?, bindSpecialIfBound?]
    refine wpAny_holding (wpAny_bind (wpAny_bind (wpAny_bind (I.type.here ((PySem.W.looks_findIn X N.ne).here ?_)))))
    refine wpAny_bind (wpAny_askSetting (wpAny_ite ?_))
    split
    · exact wpAny_bind (wpAny_of_eq (F.cmp_object.ne.bind _) (wpAny_pure (by exact tail)))
    · exact wpAny_tryCatch (wpAny_bind (wpAny_of_eq (F.cmp_object.ne.bind _) (wpAny_pure (by exact tail))))
  unfold richCompare
  simp only [oneThing_ref]
  refine wpAny_holding (wpAny_bind (wpAny_cRoomFor (Nat.lt_of_succ_lt hu) ?_))
  refine wpAny_bind (I.type.here (wpAny_bind (I'.type.here ?_)))
  rw [show (Value.ref C != Value.ref C) = false from by simp]
  refine wpAny_bind (wpAny_pure ?_)
  simp only [Bool.false_eq_true, if_false]
  refine wpAny_bind (m := tryCompare (.ref x) _ (.ref y)) (wpAny_bind (wpAny_mono found (fun r t z => ?_) fun _ _ e => e))
  obtain ⟨rfl, j⟩ := z
  exact wpAny_pure (wpAny_pure (q t j))
end
section
variable {X : Cx} {n : Nat} {CX : CXT} {C f : Addr} {fd : FuncData} {ps : List Str} {R : Addr → Addr → Hp → Bool → Prop} {E : XK}
/-- the own __eq__ run from within an expression -/
theorem own_run (F : FnOk X.prog X.w X.K X.mg X.base CX n f fd ps (spCmp R)) (hb : Binds X.K fd ps []) (hx : Passes CX X E) {A : Around} (sb : Sub X n A) {pins : List (Addr × Obj)} {σ : L2.St} {H : Hp} {s : Shared} (I : Inv X pins σ H s) {a b : Addr} {k : Bool} (r : R a b H k) :
    wpAny (model X.prog X.w) A (call (.ref f) [.ref a, .ref b]) (fun v t => v = .bool k ∧ ∃ H', Inv X pins σ H' t ∧ L2.Ext H H') X.xe s := by
  have promise : spCmp R [.ref a, .ref b] H (fun v G => v = .bl k ∧ L2.Ext H G) E := ⟨a, b, k, rfl, r, fun G e => ⟨rfl, e⟩⟩
  have two : ps.length = 2 := (F.len _ _ _ _ promise).symm
  have at0 : Env0 X.prog X.w X.K X.mg X.base A X.stack s H := by
    obtain ⟨fr, md, bs, bz, fn, ff, hk, br⟩ := I.env0
    exact ⟨sb.fr ▸ fr, md, bs, bz, fn, ff, hk, br⟩
  have bound := hb s [.ref a, .ref b] I.kIn (by rw [two]; rfl)
  refine wpAny_call (codeAny_mono (F.run A X.stack s H ⟨[.ref a, .ref b], []⟩ [.ref a, .ref b] [.ref a, .ref b] _ E sb.room at0 (by simpa using bound) (.cons rfl (.cons rfl .nil)) promise) ?_)
  intro out t h
  rcases out with e | fl
  · exact hx pins σ H s e t I h
  · cases fl with
    | ret v =>
      obtain ⟨z, G, J, rz, rfl, ex⟩ := I.after h
      exact ⟨rz, G, J, ex⟩
    | _ => exact h.elim
def rCmp (C : Addr) (R : Addr → Addr → Hp → Bool → Prop) (no : Bool) : R2 := fun x y H Q => ∃ a b dx dy fs gs k, x = V.ref a ∧ y = V.ref b ∧ H a = some (.ins C dx fs) ∧ H b = some (.ins C dy gs) ∧ R a b H k ∧ ∀ G, L2.Ext H G → Q (.bl (no ^^ k)) G
variable (F : FnOk X.prog X.w X.K X.mg X.base CX n f fd ps (spCmp R)) (hs : PySem.W.findIn X.K (.ref C) "__eq__" = some (some (.ref f))) (hf : PySem.W.isFn X.K (.ref f) = true) (hb : Binds X.K fd ps []) (hx : Passes CX X E)
include F hs hf hb hx
theorem op_eqO (hr : Room n X.A) : OpR X (compareOp .Eq) (rCmp C R false) := by
  intro pins s σ H x y v u Q I rx ry h
  obtain ⟨a, b, dx, dy, fs, gs, k, rfl, rfl, ha, hb', r, q⟩ := h
  cases (show v = Value.ref a from rx)
  cases (show u = Value.ref b from ry)
  have sb : Sub X n X.A := ⟨hr, rfl⟩
  obtain ⟨_, O, _⟩ := ins_get I.hok ha
  obtain ⟨_, O', _⟩ := ins_get I.hok hb'
  obtain ⟨_, J, _⟩ := O.look
  obtain ⟨_, J', _⟩ := O'.look
  obtain ⟨m, hF⟩ := I.fr
  refine PySem.W.cmp_K (op := .Eq) (tb := .ref C) sb.room.units0 hF I.ok.mod.kin J J'.type (by simp [PySem.W.notFirst]) hs hf (wpAny_mono (own_run F hb hx sb I r) (fun w t z => ?_) fun _ _ e => e)
  obtain ⟨rfl, G, I', ex⟩ := z
  have q := q G ex
  rw [Bool.false_xor] at q
  exact ⟨.bl k, G, I', rfl, q⟩
theorem op_neO (N : NoNe X.K C) (hr : Room (n + 1) X.A) : OpR X (compareOp .NotEq) (rCmp C R true) := by
  intro pins s σ H x y v u Q I rx ry h
  obtain ⟨a, b, dx, dy, fs, gs, k, rfl, rfl, ha, hb', r, q⟩ := h
  cases (show v = Value.ref a from rx)
  cases (show u = Value.ref b from ry)
  have sb : Sub X (n + 1) X.A := ⟨hr, rfl⟩
  obtain ⟨_, O, _⟩ := ins_get I.hok ha
  obtain ⟨_, O', _⟩ := ins_get I.hok hb'
  obtain ⟨_, J, _⟩ := O.look
  obtain ⟨_, J', _⟩ := O'.look
  refine ne_by I.kIn J J' N hs hf sb.in1.room.units0 (own_run F hb hx sb.in1 I r) fun t z => ?_
  obtain ⟨G, I', ex⟩ := z
  have q := q G ex
  rw [Bool.true_xor] at q
  exact ⟨.bl (!k), G, I', rfl, q⟩
end
end Toy

/-! texts: joined, of numbers; lists of texts and of numbers or None as data -/
namespace Toy
open PySem PySem.Spec PyProof.Rows L2
theorem str_assoc (a b c : Str) : a ++ b ++ c = a ++ (b ++ c) := by
  show (⟨_⟩ : Str) = ⟨_⟩
  congr 1
  exact Array.append_assoc ..
theorem str_nil (a : Str) : a ++ (Str.empty : Str) = a := by
  show (⟨_⟩ : Str) = a
  cases a with | mk c => exact congrArg Str.mk (Array.append_empty ..)
theorem nil_str (a : Str) : (Str.empty : Str) ++ a = a := by
  show (⟨_⟩ : Str) = a
  cases a with | mk c => exact congrArg Str.mk (Array.empty_append ..)
/-- texts one behind another -/
def catT : List Str → Str
  | [] => Str.empty
  | x :: r => x ++ catT r
theorem catT_app : ∀ a b : List Str, catT (a ++ b) = catT a ++ catT b
  | [], b => (nil_str _).symm
  | x :: r, b => by
    show x ++ catT (r ++ b) = x ++ catT r ++ catT b
    rw [catT_app r b, str_assoc]
theorem catT_snoc (a : List Str) (x : Str) : catT (a ++ [x]) = catT a ++ x := by
  rw [catT_app]
  show catT a ++ (x ++ Str.empty) = _
  rw [str_nil]
theorem fold_cps (g : Array Nat) : ∀ (r : List Str) (a b : Array Nat), List.foldl (fun acc (p : Str) => acc ++ g ++ p.cps) (a ++ b) r = a ++ List.foldl (fun acc (p : Str) => acc ++ g ++ p.cps) b r
  | [], _, _ => rfl
  | x :: r, a, b => by
    show List.foldl _ (a ++ b ++ g ++ x.cps) r = a ++ List.foldl _ (b ++ g ++ x.cps) r
    rw [Array.append_assoc, Array.append_assoc, fold_cps g r, Array.append_assoc]
theorem join_nil (s : Str) : Txt.join s [] = Str.empty := rfl
theorem join_one (s x : Str) : Txt.join s [x] = x := rfl
theorem join_cons (s x y : Str) (r : List Str) : Txt.join s (x :: y :: r) = x ++ (s ++ Txt.join s (y :: r)) := by
  show (⟨List.foldl (fun acc (p : Str) => acc ++ s.cps ++ p.cps) (x.cps ++ s.cps ++ y.cps) r⟩ : Str) = ⟨x.cps ++ (s.cps ++ List.foldl (fun acc (p : Str) => acc ++ s.cps ++ p.cps) y.cps r)⟩
  rw [Array.append_assoc, fold_cps, fold_cps]
theorem join_more (s x : Str) {l : List Str} (h : l ≠ []) : Txt.join s (x :: l) = x ++ (s ++ Txt.join s l) := by
  cases l with
  | nil => exact absurd rfl h
  | cons y r => exact join_cons s x y r
theorem join_cat : ∀ l : List Str, Txt.join Str.empty l = catT l
  | [] => rfl
  | [x] => (str_nil x).symm
  | x :: y :: r => by
    rw [join_cons, join_cat (y :: r), nil_str]; rfl
theorem len_cat : ∀ l : List Str, (catT l).length = (l.map (·.length)).sum
  | [] => rfl
  | x :: r => by
    rw [List.map_cons, List.sum_cons, ← len_cat r]
    exact PySem.Str.length_append _ _
theorem len_join (s : Str) : ∀ l : List Str, (Txt.join s l).length ≤ (l.map (·.length)).sum + l.length * s.length
  | [] => Nat.zero_le _
  | [x] => by rw [join_one]; simp
  | x :: y :: r => by
    have h := len_join s (y :: r)
    rw [join_cons, PySem.Str.length_append, PySem.Str.length_append, List.map_cons, List.sum_cons, List.length_cons, Nat.add_mul]
    omega
/-- the text of a number -/
def numS (i : Int) : Str := Str.ofString (toString i)
theorem numS_len {i : Int} (h : 0 ≤ i) (k : i < 100) : (numS i).length ≤ 2 := by
  have e : ∀ i : _root_.Fin 100, (numS ((i.val : Nat) : Int)).length ≤ 2 := by decide +kernel
  have := e ⟨i.toNat, by omega⟩
  simp only [Int.toNat_of_nonneg h] at this
  exact this
theorem num_log {i : Int} (h : 0 ≤ i) (k : i < 100) : i.natAbs.log2 < 1920 := by
  have : i.natAbs.log2 ≤ i.natAbs := Nat.log2_le_self _
  omega
/-- the text of a price or None -/
def priS : Option Int → Str
  | none => "-"
  | some i => numS i
theorem priS_len {x : Option Int} (h : ∀ i, x = some i → 0 ≤ i ∧ i < 100) : (priS x).length ≤ 2 := by
  cases x with
  | none => decide +kernel
  | some i => exact numS_len (h i rfl).1 (h i rfl).2
theorem sum_le {α : Type} {f : α → Nat} {m : Nat} : ∀ {l : List α}, (∀ x ∈ l, f x ≤ m) → (l.map f).sum ≤ l.length * m
  | [], _ => by simp
  | x :: r, h => by
    have h1 := h x List.mem_cons_self
    have h2 := sum_le (l := r) fun y hy => h y (List.mem_cons_of_mem _ hy)
    rw [List.map_cons, List.sum_cons, List.length_cons, Nat.add_mul]
    omega
/-! as data -/
theorem low_okT {z : Str} (h : Low z) : PyData.strOk z = true := by
  unfold PyData.strOk
  rw [Array.all_eq_true]
  intro i hi
  have := h.c z.cps[i] (Array.mem_toList_iff.mpr (Array.getElem_mem hi))
  exact decide_eq_true (by omega)
theorem tdp_strs {K : PySem.W.Frag} {H : Hp} : ∀ zs : List Str, DpAll K H (zs.map V.str) (zs.map PyData.str)
  | [] => .nil
  | z :: r => .cons (.str z) (tdp_strs r)
theorem teqv_strs : ∀ a b : List Str, PyData.eqvAll (a.map PyData.str) (b.map PyData.str) = decide (a = b)
  | [], [] => by simp [PyData.eqvAll]
  | [], _ :: _ => by simp [PyData.eqvAll]
  | _ :: _, [] => by simp [PyData.eqvAll]
  | x :: r, y :: t => by
    have h := teqv_strs r t
    simp only [List.map_cons, PyData.eqvAll, h, PyData.eqv]
    by_cases e : x = y <;> by_cases f : r = t <;> simp [e, f]
theorem tstrL_eqv (a b : List Str) : PyData.eqv (.list (a.map PyData.str)) (.list (b.map PyData.str)) = decide (a = b) := by
  simp only [PyData.eqv]; exact teqv_strs a b
/-- a list of data that can be laid and are flat enough -/
theorem tlstD {ds : List PyData} (h : ∀ d ∈ ds, PyData.canLay0 d = true ∧ PyData.depth d ≤ 8) : SeqAt.shaped (.list ds) = true := by
  have a : PyData.canLayAll0 ds = true ∧ PyData.depthAll ds ≤ 9 := by
    induction ds with
    | nil => simp [PyData.canLayAll0, PyData.depthAll]
    | cons x t ih =>
      obtain ⟨i1, i2⟩ := ih fun d m => h d (List.mem_cons_of_mem _ m)
      obtain ⟨x1, x2⟩ := h x List.mem_cons_self
      refine ⟨by simp [PyData.canLayAll0, x1, i1], ?_⟩
      simp only [PyData.depthAll]
      omega
  have c : PyData.canLay0 (.list ds) = true := by simp only [PyData.canLay0]; exact a.1
  have d : PyData.depth (.list ds) ≤ 64 := by simp only [PyData.depth]; omega
  show (PyData.canLay0 (.list ds) && decide (PyData.depth (.list ds) ≤ 64)) = true
  rw [c, decide_eq_true d]; rfl
theorem tshaped_strs {zs : List Str} (h : ∀ z ∈ zs, Low z) : SeqAt.shaped (.list (zs.map PyData.str)) = true := tlstD fun d m => by
  obtain ⟨z, mz, rfl⟩ := List.mem_map.mp m
  exact ⟨by simp [PyData.canLay0, low_okT (h z mz)], by simp [PyData.depth]⟩
def optD : Option Int → PyData
  | none => .none
  | some i => .int i
theorem tdp_opts {K : PySem.W.Frag} {H : Hp} : ∀ xs : List (Option Int), DpAll K H (xs.map vO) (xs.map optD)
  | [] => .nil
  | none :: r => .cons .non (tdp_opts r)
  | some i :: r => .cons (.int i) (tdp_opts r)
theorem teqv_opts : ∀ a b : List (Option Int), PyData.eqvAll (a.map optD) (b.map optD) = decide (a = b)
  | [], [] => by simp [PyData.eqvAll]
  | [], _ :: _ => by simp [PyData.eqvAll]
  | _ :: _, [] => by simp [PyData.eqvAll]
  | x :: r, y :: t => by
    have h := teqv_opts r t
    have e0 : PyData.eqv (optD x) (optD y) = decide (x = y) := by
      cases x <;> cases y <;> simp [optD, PyData.eqv]
      rw [Bool.eq_iff_iff, beq_iff_eq, decide_eq_true_iff]
    simp only [List.map_cons, PyData.eqvAll, h, e0]
    by_cases e : x = y <;> by_cases f : r = t <;> simp [e, f]
theorem toptL_eqv (a b : List (Option Int)) : PyData.eqv (.list (a.map optD)) (.list (b.map optD)) = decide (a = b) := by
  simp only [PyData.eqv]; exact teqv_opts a b
theorem tshaped_opts (xs : List (Option Int)) : SeqAt.shaped (.list (xs.map optD)) = true := tlstD fun d m => by
  obtain ⟨z, mz, rfl⟩ := List.mem_map.mp m
  cases z <;> exact ⟨by simp [optD, PyData.canLay0], by simp [optD, PyData.depth]⟩
/-- the beginning of a name -/
theorem cut8 {z : Str} (h1 : 1 ≤ z.length) (h : Low z) : Name 8 (cutS z none (some 8)) := by
  have e : HT.sIx z.length 0 none = 0 := rfl
  have e2 : HT.sIx z.length z.length (some 8) = min 8 z.length := by
    unfold HT.sIx
    show (if (8 : Int) < 0 then _ else min (8 : Int).toNat z.length) = _
    rw [if_neg (by omega)]; rfl
  have ec : (cutS z none (some 8)).cps = (z.cps.toList.take (min 8 z.length)).toArray := by
    unfold cutS
    rw [e, e2]; rfl
  have el : (cutS z none (some 8)).length = min (min 8 z.length) z.length := by
    show (cutS z none (some 8)).cps.size = _
    rw [ec, List.size_toArray, List.length_take, Array.length_toList]; rfl
  refine ⟨by rw [el]; omega, by rw [el]; omega, ⟨fun x hx => ?_⟩⟩
  rw [ec, List.toList_toArray] at hx
  exact h.c x (List.mem_of_mem_take hx)
theorem low_two {a b : Str} (h1 : Low a) (h2 : Low b) : Low (a ++ b) := ⟨fun x hx => by
  have e : (a ++ b).cps = a.cps ++ b.cps := rfl
  rw [e, Array.toList_append] at hx
  rcases List.mem_append.mp hx with q | q
  · exact h1.c x q
  · exact h2.c x q⟩
end Toy

/-! xs[j] += n of a list; a text times a number -/
namespace Toy
open PySem PySem.Spec PyProof.Rows L2
section
variable {X : Cx}
def rIx0 (K : PySem.W.Frag) : V → V → Hp → VK → Prop := fun x y H Q => ∃ (p : Addr) (xs : List V) (j : Nat) (v : V), x = .ref p ∧ y = .int j ∧ SqL K H p xs ∧ xs[j]? = some v ∧ Q v H
theorem get_list : PGet X (rIx0 X.K) := by
  intro pins s σ H o i ov iv Q I ro ri h
  obtain ⟨p, xs, j, v, rfl, rfl, hs, hx, q⟩ := h
  cases (show ov = Value.ref p from ro)
  obtain ⟨t, rfl⟩ := (show ∃ t, iv = Value.int (j : Nat) t from ri)
  obtain ⟨its, rv, hl, hlen⟩ := I.list hs
  obtain ⟨u, hu, ru⟩ := Vals.get rv hx
  have jl := (List.getElem?_eq_some_iff.mp hu).1
  refine wpAny_getItem_list (items := its.toArray) hl.isList (by omega) ?_ (by simpa using hu) ⟨v, H, I, ru, q⟩
  have h1 := rv.length
  have : sizeLine < 2 ^ 63 := by decide
  omega
def repS (c : Str) (k : Nat) : Str := ⟨List.foldl (fun x1 x2 => x1 ++ x2) #[] (List.replicate k c.cps)⟩
theorem fold_size (x : Array Nat) : ∀ (k : Nat) (a : Array Nat), (List.foldl (fun x1 x2 => x1 ++ x2) a (List.replicate k x)).size = a.size + k * x.size
  | 0, a => by simp
  | k + 1, a => by
    rw [List.replicate_succ, List.foldl_cons, fold_size x k, Array.size_append, Nat.add_mul]
    omega
theorem repS_len (c : Str) (k : Nat) : (repS c k).length = k * c.length := by
  show (List.foldl (fun x1 x2 => x1 ++ x2) #[] (List.replicate k c.cps)).size = _
  rw [fold_size]
  simp only [Array.size_empty, Nat.zero_add]; rfl
def rRepS : R2 := fun x y H Q => ∃ (c : Str) (k : Nat), x = .str c ∧ y = .int (k : Nat) ∧ 1 ≤ k ∧ k ≤ 1000 ∧ 1 ≤ c.length ∧ c.length ≤ 1000 ∧ Q (.str (repS c k)) H
theorem op_repS : OpR X (binaryOp .Mult) rRepS := by
  intro pins s σ H x y v u Q I rx ry h
  obtain ⟨c, k, rfl, rfl, k1, k2, c1, c2, q⟩ := h
  obtain ⟨t, rfl⟩ := (show ∃ t, v = Value.str c t from rx)
  obtain ⟨t2, rfl⟩ := (show ∃ t, u = Value.int (k : Nat) t from ry)
  have hm : c.length * k ≤ 1000 * 1000 := Nat.mul_le_mul c2 k2
  refine PySem.P.mul_str ?_ (fun _ _ => ?_) (fun _ _ => ?_) ?_
  · rw [Bool.or_eq_false_iff]
    exact ⟨decide_eq_false (by omega), decide_eq_false (by omega)⟩
  · intro g
    have h1 : (9000000000000000 : Int) ≤ (2 ^ 63 - 1) / ((k : Nat) : Int) := by
      refine (Int.le_ediv_iff_mul_le (by omega)).mpr ?_
      omega
    omega
  · have : (((k : Nat) : Int)).toNat = k := by omega
    rw [this]
    unfold Builtin.Str.tooLong
    refine decide_eq_false ?_
    have : (1000 * 1000 : Nat) ≤ sizeLine := by decide
    omega
  · rw [if_neg (by omega)]
    by_cases e : k = 1
    · subst e
      rw [if_pos (by simp)]
      have e1 : repS c 1 = c := by
        unfold repS
        show (⟨#[] ++ c.cps⟩ : Str) = c
        rw [Array.empty_append]
      rw [e1] at q
      exact ⟨.str c, H, I, ⟨t, rfl⟩, q⟩
    · have e2 : (((k : Nat) : Int) == 1 || c.length == 0) = false := by
        rw [Bool.or_eq_false_iff]
        exact ⟨by rw [beq_eq_false_iff_ne]; omega, by rw [beq_eq_false_iff_ne]; omega⟩
      rw [e2, if_neg (by decide)]
      have : (((k : Nat) : Int)).toNat = k := by omega
      rw [this]
      refine ⟨?_, .str (repS c k), H, I.tok _, ⟨s.toks, rfl⟩, q⟩
      show (repS c k).length ≤ sizeLine
      rw [repS_len, Nat.mul_comm]
      have : (1000 * 1000 : Nat) ≤ sizeLine := by decide
      omega
end
end Toy

namespace Toy
open PySem PySem.Spec PyProof.Rows L2
/-! the text by places -/
def top (i : Nat) : Stmt := PySem.Challenge.pw_hintslie_k55_posts_of_styles.main.body.getD i (.Pass ⟨0, 0, 0, 0⟩)
abbrev s_NoRequestZ_initZ : Stmt := inClass (top 5) 0
theorem sc_NoRequestZ_initZ : FnScope ["self", "name"] ["self", "name"] (defScope s_NoRequestZ_initZ) := ⟨rfl, rfl, rfl, by decide +kernel, rfl, by decide +kernel, by decide +kernel⟩
abbrev s_is_integer : Stmt := top 15
theorem sc_is_integer : FnScope ["thing"] ["thing"] (defScope s_is_integer) := ⟨rfl, rfl, rfl, by decide +kernel, rfl, by decide +kernel, by decide +kernel⟩
abbrev s_is_natural : Stmt := top 16
theorem sc_is_natural : FnScope ["thing"] ["thing"] (defScope s_is_natural) := ⟨rfl, rfl, rfl, by decide +kernel, rfl, by decide +kernel, by decide +kernel⟩
abbrev s_is_below : Stmt := top 17
theorem sc_is_below : FnScope ["thing", "many"] ["thing", "many"] (defScope s_is_below) := ⟨rfl, rfl, rfl, by decide +kernel, rfl, by decide +kernel, by decide +kernel⟩
abbrev s_is_row : Stmt := top 18
theorem sc_is_row : FnScope ["thing"] ["thing"] (defScope s_is_row) := ⟨rfl, rfl, rfl, by decide +kernel, rfl, by decide +kernel, by decide +kernel⟩
abbrev s_is_tuple_of : Stmt := top 19
theorem sc_is_tuple_of : FnScope ["thing", "many"] ["thing", "many"] (defScope s_is_tuple_of) := ⟨rfl, rfl, rfl, by decide +kernel, rfl, by decide +kernel, by decide +kernel⟩
abbrev s_is_name : Stmt := top 20
theorem sc_is_name : FnScope ["thing", "letter"] ["thing"] (defScope s_is_name) := ⟨rfl, rfl, rfl, by decide +kernel, rfl, by decide +kernel, by decide +kernel⟩
abbrev s_is_known : Stmt := top 21
theorem sc_is_known : FnScope ["thing", "names"] ["thing", "names"] (defScope s_is_known) := ⟨rfl, rfl, rfl, by decide +kernel, rfl, by decide +kernel, by decide +kernel⟩
abbrev s_check_suited : Stmt := top 23
theorem sc_check_suited : FnScope ["system", "machine", "name"] ["system", "machine"] (defScope s_check_suited) := ⟨rfl, rfl, rfl, by decide +kernel, rfl, by decide +kernel, by decide +kernel⟩
abbrev s_check_mode : Stmt := top 24
theorem sc_check_mode : FnScope ["system", "machine", "mode"] ["system", "machine", "mode"] (defScope s_check_mode) := ⟨rfl, rfl, rfl, by decide +kernel, rfl, by decide +kernel, by decide +kernel⟩
abbrev s_check_style : Stmt := top 27
theorem sc_check_style : FnScope ["system", "machine", "mode", "style"] ["system", "machine", "mode", "style"] (defScope s_check_style) := ⟨rfl, rfl, rfl, by decide +kernel, rfl, by decide +kernel, by decide +kernel⟩
abbrev s__costs : Stmt := top 28
theorem sc__costs : FnScope ["system", "place", "request", "ways", "post", "price"] ["system", "place", "request"] (defScope s__costs) := ⟨rfl, rfl, rfl, by decide +kernel, rfl, by decide +kernel, by decide +kernel⟩
abbrev s__least : Stmt := top 29
theorem sc__least : FnScope ["costs", "cost"] ["costs"] (defScope s__least) := ⟨rfl, rfl, rfl, by decide +kernel, rfl, by decide +kernel, by decide +kernel⟩
abbrev s__first_least : Stmt := top 30
theorem sc__first_least : FnScope ["costs"] ["costs"] (defScope s__first_least) := ⟨rfl, rfl, rfl, by decide +kernel, rfl, by decide +kernel, by decide +kernel⟩
abbrev s__trusting : Stmt := top 31
theorem sc__trusting : FnScope ["system", "costs", "hint", "post", "cost"] ["system", "costs", "hint"] (defScope s__trusting) := ⟨rfl, rfl, rfl, by decide +kernel, rfl, by decide +kernel, by decide +kernel⟩
abbrev s__offset_costs : Stmt := top 32
theorem sc__offset_costs : FnScope ["steps", "view", "request", "offsets", "_", "ways", "prices", "post", "price"] ["steps", "view", "request"] (defScope s__offset_costs) := ⟨rfl, rfl, rfl, by decide +kernel, rfl, by decide +kernel, by decide +kernel⟩
abbrev s_chosen_post : Stmt := top 33
theorem sc_chosen_post : FnScope ["steps", "style", "view", "ask", "request", "hint", "place", "costs"] ["steps", "style", "view", "ask"] (defScope s_chosen_post) := ⟨rfl, rfl, rfl, by decide +kernel, rfl, by decide +kernel, by decide +kernel⟩
abbrev s_is_offsets : Stmt := top 35
theorem sc_is_offsets : FnScope ["system", "thing", "offset", "ways", "other", "way"] ["system", "thing"] (defScope s_is_offsets) := ⟨rfl, rfl, rfl, by decide +kernel, rfl, by decide +kernel, by decide +kernel⟩
abbrev s_risen : Stmt := top 36
theorem sc_risen : FnScope ["system", "offsets", "name", "served", "raw", "rise", "offset", "price", "ways", "cost", "post"] ["system", "offsets", "name"] (defScope s_risen) := ⟨rfl, rfl, rfl, by decide +kernel, rfl, by decide +kernel, by decide +kernel⟩
abbrev s_StepsZ_initZ : Stmt := inClass (top 38) 0
theorem sc_StepsZ_initZ : FnScope ["self", "system", "machine", "mode"] ["self", "system", "machine", "mode"] (defScope s_StepsZ_initZ) := ⟨rfl, rfl, rfl, by decide +kernel, rfl, by decide +kernel, by decide +kernel⟩
abbrev s_Steps_is_view : Stmt := inClass (top 38) 1
theorem sc_Steps_is_view : FnScope ["self", "thing", "state", "post", "offsets", "hint"] ["self", "thing"] (defScope s_Steps_is_view) := ⟨rfl, rfl, rfl, by decide +kernel, rfl, by decide +kernel, by decide +kernel⟩
abbrev s_StepsZis_hint : Stmt := inClass (top 38) 2
theorem sc_StepsZis_hint : FnScope ["self", "state", "hint"] ["self", "state", "hint"] (defScope s_StepsZis_hint) := ⟨rfl, rfl, rfl, by decide +kernel, rfl, by decide +kernel, by decide +kernel⟩
abbrev s_StepsZhints : Stmt := inClass (top 38) 3
theorem sc_StepsZhints : FnScope ["self", "state"] ["self", "state"] (defScope s_StepsZhints) := ⟨rfl, rfl, rfl, by decide +kernel, rfl, by decide +kernel, by decide +kernel⟩
abbrev s_Steps_asks_at : Stmt := inClass (top 38) 4
theorem sc_Steps_asks_at : FnScope ["self", "view", "turn", "hint", "requests", "request", "after"] ["self", "view"] (defScope s_Steps_asks_at) := ⟨rfl, rfl, rfl, by decide +kernel, rfl, by decide +kernel, by decide +kernel⟩
abbrev s_Steps_risen_by : Stmt := inClass (top 38) 6
theorem sc_Steps_risen_by : FnScope ["self", "offsets", "request", "key"] ["self", "offsets", "request"] (defScope s_Steps_risen_by) := ⟨rfl, rfl, rfl, by decide +kernel, rfl, by decide +kernel, by decide +kernel⟩
abbrev s_style_post : Stmt := top 40
theorem sc_style_post : FnScope ["system", "machine", "mode", "style", "view", "ask", "steps"] ["system", "machine", "mode", "style", "view", "ask"] (defScope s_style_post) := ⟨rfl, rfl, rfl, by decide +kernel, rfl, by decide +kernel, by decide +kernel⟩
abbrev s__is_turn : Stmt := top 43
theorem sc__is_turn : FnScope ["thing", "states", "name"] ["thing", "states"] (defScope s__is_turn) := ⟨rfl, rfl, rfl, by decide +kernel, rfl, by decide +kernel, by decide +kernel⟩
abbrev s__is_turns : Stmt := top 44
theorem sc__is_turns : FnScope ["thing", "turn"] ["thing"] (defScope s__is_turns) := ⟨rfl, rfl, rfl, by decide +kernel, rfl, by decide +kernel, by decide +kernel⟩
abbrev s_MachineZ_initZ : Stmt := inClass (top 45) 0
theorem sc_MachineZ_initZ : FnScope ["self", "turns", "turn", "name"] ["self", "turns"] (defScope s_MachineZ_initZ) := ⟨rfl, rfl, rfl, by decide +kernel, rfl, by decide +kernel, by decide +kernel⟩
abbrev s_Machine_turns : Stmt := inClass (top 45) 1
theorem sc_Machine_turns : FnScope ["self", "turn"] ["self"] (defScope s_Machine_turns) := ⟨rfl, rfl, rfl, by decide +kernel, rfl, by decide +kernel, by decide +kernel⟩
abbrev s__is_price : Stmt := top 50
theorem sc__is_price : FnScope ["thing"] ["thing"] (defScope s__is_price) := ⟨rfl, rfl, rfl, by decide +kernel, rfl, by decide +kernel, by decide +kernel⟩
abbrev s_is_moves : Stmt := top 51
theorem sc_is_moves : FnScope ["thing", "post", "prices", "price"] ["thing"] (defScope s_is_moves) := ⟨rfl, rfl, rfl, by decide +kernel, rfl, by decide +kernel, by decide +kernel⟩
abbrev s__is_prices : Stmt := top 52
theorem sc__is_prices : FnScope ["thing", "posts", "told", "price"] ["thing", "posts"] (defScope s__is_prices) := ⟨rfl, rfl, rfl, by decide +kernel, rfl, by decide +kernel, by decide +kernel⟩
abbrev s__is_requests : Stmt := top 53
theorem sc__is_requests : FnScope ["thing", "posts", "name"] ["thing", "posts"] (defScope s__is_requests) := ⟨rfl, rfl, rfl, by decide +kernel, rfl, by decide +kernel, by decide +kernel⟩
abbrev s_least_ways : Stmt := top 54
theorem sc_least_ways : FnScope ["moves", "ways", "posts", "middle", "start", "end", "prices", "row"] ["moves"] (defScope s_least_ways) := ⟨rfl, rfl, rfl, by decide +kernel, rfl, by decide +kernel, by decide +kernel⟩
abbrev s_SystemZ_initZ : Stmt := inClass (top 55) 0
theorem sc_SystemZ_initZ : FnScope ["self", "moves", "requests", "name"] ["self", "moves", "requests"] (defScope s_SystemZ_initZ) := ⟨rfl, rfl, rfl, by decide +kernel, rfl, by decide +kernel, by decide +kernel⟩
abbrev s_System_prices : Stmt := inClass (top 55) 5
theorem sc_System_prices : FnScope ["self", "name"] ["self", "name"] (defScope s_System_prices) := ⟨rfl, rfl, rfl, by decide +kernel, rfl, by decide +kernel, by decide +kernel⟩
abbrev s__law_cell : Stmt := top 57
theorem sc__law_cell : FnScope ["script", "k"] ["script", "k"] (defScope s__law_cell) := ⟨rfl, rfl, rfl, by decide +kernel, rfl, by decide +kernel, by decide +kernel⟩
abbrev s__law_source : Stmt := top 58
theorem sc__law_source : FnScope ["cell"] ["cell"] (defScope s__law_source) := ⟨rfl, rfl, rfl, by decide +kernel, rfl, by decide +kernel, by decide +kernel⟩
abbrev s__law_draw : Stmt := top 59
theorem sc__law_draw : FnScope ["source", "many", "digit", "number"] ["source", "many"] (defScope s__law_draw) := ⟨rfl, rfl, rfl, by decide +kernel, rfl, by decide +kernel, by decide +kernel⟩
abbrev s__law_name : Stmt := top 60
theorem sc__law_name : FnScope ["source", "taken", "word", "k"] ["source", "taken"] (defScope s__law_name) := ⟨rfl, rfl, rfl, by decide +kernel, rfl, by decide +kernel, by decide +kernel⟩
abbrev s__law_moves : Stmt := top 61
theorem sc__law_moves : FnScope ["source", "posts", "most", "moves", "a", "row", "b"] ["source", "posts", "most"] (defScope s__law_moves) := ⟨rfl, rfl, rfl, by decide +kernel, rfl, by decide +kernel, by decide +kernel⟩
abbrev s__law_requests : Stmt := top 62
theorem sc__law_requests : FnScope ["source", "posts", "many", "most", "requests", "k", "name", "row", "post", "price"] ["source", "posts", "many", "most"] (defScope s__law_requests) := ⟨rfl, rfl, rfl, by decide +kernel, rfl, by decide +kernel, by decide +kernel⟩
abbrev s__law_turns : Stmt := top 63
theorem sc__law_turns : FnScope ["source", "names", "states", "turns", "state", "row", "name"] ["source", "names", "states"] (defScope s__law_turns) := ⟨rfl, rfl, rfl, by decide +kernel, rfl, by decide +kernel, by decide +kernel⟩
abbrev s__law_copies : Stmt := top 64
theorem sc__law_copies : FnScope ["turns", "row"] ["turns"] (defScope s__law_copies) := ⟨rfl, rfl, rfl, by decide +kernel, rfl, by decide +kernel, by decide +kernel⟩
abbrev s__law_is_integer : Stmt := top 65
theorem sc__law_is_integer : FnScope ["thing"] ["thing"] (defScope s__law_is_integer) := ⟨rfl, rfl, rfl, by decide +kernel, rfl, by decide +kernel, by decide +kernel⟩
abbrev s__law_ways : Stmt := top 66
theorem sc__law_ways : FnScope ["moves", "ways", "c", "a", "b", "row"] ["moves"] (defScope s__law_ways) := ⟨rfl, rfl, rfl, by decide +kernel, rfl, by decide +kernel, by decide +kernel⟩
abbrev s__law_after : Stmt := top 67
theorem sc__law_after : FnScope ["ways", "prices", "offsets", "raw", "b", "rise", "a", "number"] ["ways", "prices", "offsets"] (defScope s__law_after) := ⟨rfl, rfl, rfl, by decide +kernel, rfl, by decide +kernel, by decide +kernel⟩
abbrev s__law_asks : Stmt := top 68
theorem sc__law_asks : FnScope ["turns", "mode", "view", "rows", "here", "name", "later"] ["turns", "mode", "view"] (defScope s__law_asks) := ⟨rfl, rfl, rfl, by decide +kernel, rfl, by decide +kernel, by decide +kernel⟩
abbrev s__law_serving : Stmt := top 69
theorem sc__law_serving : FnScope ["prices", "post"] ["prices"] (defScope s__law_serving) := ⟨rfl, rfl, rfl, by decide +kernel, rfl, by decide +kernel, by decide +kernel⟩
abbrev s__law_number : Stmt := top 70
theorem sc__law_number : FnScope ["world", "style", "view", "ask", "post", "ways", "requests", "turns", "mode", "number", "later", "b"] ["world", "style", "view", "ask", "post"] (defScope s__law_number) := ⟨rfl, rfl, rfl, by decide +kernel, rfl, by decide +kernel, by decide +kernel⟩
abbrev s__law_chosen : Stmt := top 71
theorem sc__law_chosen : FnScope ["world", "style", "view", "ask", "prices", "best", "pick", "post", "number"] ["world", "style", "view", "ask"] (defScope s__law_chosen) := ⟨rfl, rfl, rfl, by decide +kernel, rfl, by decide +kernel, by decide +kernel⟩
abbrev s__law_view : Stmt := top 72
theorem sc__law_view : FnScope ["source", "world", "ways", "requests", "turns", "mode", "state", "post", "names", "pick", "hint", "first", "raw", "b", "a", "number"] ["source", "world"] (defScope s__law_view) := ⟨rfl, rfl, rfl, by decide +kernel, rfl, by decide +kernel, by decide +kernel⟩
abbrev s__law_related : Stmt := top 73
theorem sc__law_related : FnScope ["told", "world", "view", "ask", "near", "calm", "trust", "offset"] ["told", "world", "view", "ask"] (defScope s__law_related) := ⟨rfl, rfl, rfl, by decide +kernel, rfl, by decide +kernel, by decide +kernel⟩
abbrev s_law : Stmt := top 74
theorem sc_law : FnScope ["script", "source", "mode", "posts", "many", "most", "moves", "requests", "states", "turns", "system", "machine", "world", "styles", "k", "cell", "at", "view", "asks", "ask", "told", "style", "post"] ["script"] (defScope s_law) := ⟨rfl, rfl, rfl, by decide +kernel, rfl, by decide +kernel, by decide +kernel⟩
structure Top (K : PySem.W.Frag) (mg : Str → Option Value) where
  b_all : mg "all" = none
  b_any : mg "any" = none
  b_bool : mg "bool" = none
  b_dict : mg "dict" = none
  b_enumerate : mg "enumerate" = none
  b_int : mg "int" = none
  b_isinstance : mg "isinstance" = none
  b_len : mg "len" = none
  b_list : mg "list" = none
  b_min : mg "min" = none
  b_range : mg "range" = none
  b_sorted : mg "sorted" = none
  b_str : mg "str" = none
  b_tuple : mg "tuple" = none
  b_zip : mg "zip" = none
  g_LETTERS : ∃ t, mg "LETTERS" = some (.str "abcdefghijklmnopqrstuvwxyz" t)
  g_MOST_POSTS : ∃ t, mg "MOST_POSTS" = some (.int 6 t)
  g_MOST_PRICE : ∃ t, mg "MOST_PRICE" = some (.int 9 t)
  g_MOST_REQUESTS : ∃ t, mg "MOST_REQUESTS" = some (.int 5 t)
  g_MOST_STATES : ∃ t, mg "MOST_STATES" = some (.int 4 t)
  d_is_integer : DefAt K mg "is_integer" s_is_integer ["thing"]
  d_is_natural : DefAt K mg "is_natural" s_is_natural ["thing"]
  d_is_below : DefAt K mg "is_below" s_is_below ["thing", "many"]
  d_is_row : DefAt K mg "is_row" s_is_row ["thing"]
  d_is_tuple_of : DefAt K mg "is_tuple_of" s_is_tuple_of ["thing", "many"]
  d_is_name : DefAt K mg "is_name" s_is_name ["thing"]
  d_is_known : DefAt K mg "is_known" s_is_known ["thing", "names"]
  d_check_suited : DefAt K mg "check_suited" s_check_suited ["system", "machine"]
  d_check_mode : DefAt K mg "check_mode" s_check_mode ["system", "machine", "mode"]
  d_check_style : DefAt K mg "check_style" s_check_style ["system", "machine", "mode", "style"]
  d__costs : DefAt K mg "_costs" s__costs ["system", "place", "request"]
  d__least : DefAt K mg "_least" s__least ["costs"]
  d__first_least : DefAt K mg "_first_least" s__first_least ["costs"]
  d__trusting : DefAt K mg "_trusting" s__trusting ["system", "costs", "hint"]
  d__offset_costs : DefAt K mg "_offset_costs" s__offset_costs ["steps", "view", "request"]
  d_chosen_post : DefAt K mg "chosen_post" s_chosen_post ["steps", "style", "view", "ask"]
  d_is_offsets : DefAt K mg "is_offsets" s_is_offsets ["system", "thing"]
  d_risen : DefAt K mg "risen" s_risen ["system", "offsets", "name"]
  d_style_post : DefAt K mg "style_post" s_style_post ["system", "machine", "mode", "style", "view", "ask"]
  d__is_turn : DefAt K mg "_is_turn" s__is_turn ["thing", "states"]
  d__is_turns : DefAt K mg "_is_turns" s__is_turns ["thing"]
  d__is_price : DefAt K mg "_is_price" s__is_price ["thing"]
  d_is_moves : DefAt K mg "is_moves" s_is_moves ["thing"]
  d__is_prices : DefAt K mg "_is_prices" s__is_prices ["thing", "posts"]
  d__is_requests : DefAt K mg "_is_requests" s__is_requests ["thing", "posts"]
  d_least_ways : DefAt K mg "least_ways" s_least_ways ["moves"]
  d__law_cell : DefAt K mg "_law_cell" s__law_cell ["script", "k"]
  d__law_source : DefAt K mg "_law_source" s__law_source ["cell"]
  d__law_draw : DefAt K mg "_law_draw" s__law_draw ["source", "many"]
  d__law_name : DefAt K mg "_law_name" s__law_name ["source", "taken"]
  d__law_moves : DefAt K mg "_law_moves" s__law_moves ["source", "posts", "most"]
  d__law_requests : DefAt K mg "_law_requests" s__law_requests ["source", "posts", "many", "most"]
  d__law_turns : DefAt K mg "_law_turns" s__law_turns ["source", "names", "states"]
  d__law_copies : DefAt K mg "_law_copies" s__law_copies ["turns"]
  d__law_is_integer : DefAt K mg "_law_is_integer" s__law_is_integer ["thing"]
  d__law_ways : DefAt K mg "_law_ways" s__law_ways ["moves"]
  d__law_after : DefAt K mg "_law_after" s__law_after ["ways", "prices", "offsets"]
  d__law_asks : DefAt K mg "_law_asks" s__law_asks ["turns", "mode", "view"]
  d__law_serving : DefAt K mg "_law_serving" s__law_serving ["prices"]
  d__law_number : DefAt K mg "_law_number" s__law_number ["world", "style", "view", "ask", "post"]
  d__law_chosen : DefAt K mg "_law_chosen" s__law_chosen ["world", "style", "view", "ask"]
  d__law_view : DefAt K mg "_law_view" s__law_view ["source", "world"]
  d__law_related : DefAt K mg "_law_related" s__law_related ["told", "world", "view", "ask"]
  d_law : DefAt K mg "law" s_law ["script"]
  c_NoRequest : Addr
  x_NoRequest : ExcAt K mg "NoRequest" c_NoRequest "name" s_NoRequestZ_initZ
  c_MODES : Addr
  mg_MODES : mg "MODES" = some (.ref c_MODES)
  c_STYLES : Addr
  mg_STYLES : mg "STYLES" = some (.ref c_STYLES)
  c_System : Addr
  cl_System : Cls K c_System
  mg_System : mg "System" = some (.ref c_System)
  na_System_moves : NoAttr K c_System "moves"
  na_System_posts : NoAttr K c_System "posts"
  na_System_names : NoAttr K c_System "names"
  na_System_ways : NoAttr K c_System "ways"
  na_System__requests : NoAttr K c_System "_requests"
  i_System : ClsInit K c_System "System.__init__" s_SystemZ_initZ ["self", "moves", "requests"]
  m_System_prices : MethAt K c_System "prices" "System.prices" s_System_prices ["self", "name"]
  c_Machine : Addr
  cl_Machine : Cls K c_Machine
  mg_Machine : mg "Machine" = some (.ref c_Machine)
  na_Machine_names : NoAttr K c_Machine "names"
  na_Machine_states : NoAttr K c_Machine "states"
  na_Machine__turns : NoAttr K c_Machine "_turns"
  i_Machine : ClsInit K c_Machine "Machine.__init__" s_MachineZ_initZ ["self", "turns"]
  p_Machine_turns : PropAt K c_Machine "turns" "Machine.turns" s_Machine_turns
  c_Steps : Addr
  cl_Steps : Cls K c_Steps
  mg_Steps : mg "Steps" = some (.ref c_Steps)
  na_Steps_system : NoAttr K c_Steps "system"
  na_Steps_mode : NoAttr K c_Steps "mode"
  na_Steps__turns : NoAttr K c_Steps "_turns"
  na_Steps__risen : NoAttr K c_Steps "_risen"
  i_Steps : ClsInit K c_Steps "Steps.__init__" s_StepsZ_initZ ["self", "system", "machine", "mode"]
  m_Steps_is_view : MethAt K c_Steps "is_view" "Steps.is_view" s_Steps_is_view ["self", "thing"]
  m_Steps__is_hint : MethAt K c_Steps "_is_hint" "Steps._is_hint" s_StepsZis_hint ["self", "state", "hint"]
  m_Steps__hints : MethAt K c_Steps "_hints" "Steps._hints" s_StepsZhints ["self", "state"]
  m_Steps_asks_at : MethAt K c_Steps "asks_at" "Steps.asks_at" s_Steps_asks_at ["self", "view"]
  m_Steps_risen_by : MethAt K c_Steps "risen_by" "Steps.risen_by" s_Steps_risen_by ["self", "offsets", "request"]
  tp_MODES : ∀ H, SqT K H c_MODES [.str "none", .str "true", .str "free"]
  tp_STYLES : ∀ H, SqT K H c_STYLES [.str "near", .str "calm", .str "trust", .str "offset"]
end Toy

namespace Toy
open PySem PySem.Spec PyProof.Rows L2
/-! the head's run, ahead of all (it takes the most room) -/
def hds_NoRequestZ_initZ : He.DefD := ⟨("NoRequest", some "__init__"), "__init__", "NoRequest.__init__", defArgs s_NoRequestZ_initZ, defBody s_NoRequestZ_initZ, defScope s_NoRequestZ_initZ, [], []⟩
def hds_is_integer : He.DefD := ⟨("is_integer", none), "is_integer", "is_integer", defArgs s_is_integer, defBody s_is_integer, defScope s_is_integer, [], []⟩
def hds_is_natural : He.DefD := ⟨("is_natural", none), "is_natural", "is_natural", defArgs s_is_natural, defBody s_is_natural, defScope s_is_natural, [], []⟩
def hds_is_below : He.DefD := ⟨("is_below", none), "is_below", "is_below", defArgs s_is_below, defBody s_is_below, defScope s_is_below, [], []⟩
def hds_is_row : He.DefD := ⟨("is_row", none), "is_row", "is_row", defArgs s_is_row, defBody s_is_row, defScope s_is_row, [], []⟩
def hds_is_tuple_of : He.DefD := ⟨("is_tuple_of", none), "is_tuple_of", "is_tuple_of", defArgs s_is_tuple_of, defBody s_is_tuple_of, defScope s_is_tuple_of, [], []⟩
def hds_is_name : He.DefD := ⟨("is_name", none), "is_name", "is_name", defArgs s_is_name, defBody s_is_name, defScope s_is_name, [], []⟩
def hds_is_known : He.DefD := ⟨("is_known", none), "is_known", "is_known", defArgs s_is_known, defBody s_is_known, defScope s_is_known, [], []⟩
def hds_check_suited : He.DefD := ⟨("check_suited", none), "check_suited", "check_suited", defArgs s_check_suited, defBody s_check_suited, defScope s_check_suited, [], []⟩
def hds_check_mode : He.DefD := ⟨("check_mode", none), "check_mode", "check_mode", defArgs s_check_mode, defBody s_check_mode, defScope s_check_mode, [], []⟩
def hds_check_style : He.DefD := ⟨("check_style", none), "check_style", "check_style", defArgs s_check_style, defBody s_check_style, defScope s_check_style, [], []⟩
def hds__costs : He.DefD := ⟨("_costs", none), "_costs", "_costs", defArgs s__costs, defBody s__costs, defScope s__costs, [], []⟩
def hds__least : He.DefD := ⟨("_least", none), "_least", "_least", defArgs s__least, defBody s__least, defScope s__least, [], []⟩
def hds__first_least : He.DefD := ⟨("_first_least", none), "_first_least", "_first_least", defArgs s__first_least, defBody s__first_least, defScope s__first_least, [], []⟩
def hds__trusting : He.DefD := ⟨("_trusting", none), "_trusting", "_trusting", defArgs s__trusting, defBody s__trusting, defScope s__trusting, [], []⟩
def hds__offset_costs : He.DefD := ⟨("_offset_costs", none), "_offset_costs", "_offset_costs", defArgs s__offset_costs, defBody s__offset_costs, defScope s__offset_costs, [], []⟩
def hds_chosen_post : He.DefD := ⟨("chosen_post", none), "chosen_post", "chosen_post", defArgs s_chosen_post, defBody s_chosen_post, defScope s_chosen_post, [], []⟩
def hds_is_offsets : He.DefD := ⟨("is_offsets", none), "is_offsets", "is_offsets", defArgs s_is_offsets, defBody s_is_offsets, defScope s_is_offsets, [], []⟩
def hds_risen : He.DefD := ⟨("risen", none), "risen", "risen", defArgs s_risen, defBody s_risen, defScope s_risen, [], []⟩
def hds_StepsZ_initZ : He.DefD := ⟨("Steps", some "__init__"), "__init__", "Steps.__init__", defArgs s_StepsZ_initZ, defBody s_StepsZ_initZ, defScope s_StepsZ_initZ, [], []⟩
def hds_Steps_is_view : He.DefD := ⟨("Steps", some "is_view"), "is_view", "Steps.is_view", defArgs s_Steps_is_view, defBody s_Steps_is_view, defScope s_Steps_is_view, [], []⟩
def hds_StepsZis_hint : He.DefD := ⟨("Steps", some "_is_hint"), "_is_hint", "Steps._is_hint", defArgs s_StepsZis_hint, defBody s_StepsZis_hint, defScope s_StepsZis_hint, [], []⟩
def hds_StepsZhints : He.DefD := ⟨("Steps", some "_hints"), "_hints", "Steps._hints", defArgs s_StepsZhints, defBody s_StepsZhints, defScope s_StepsZhints, [], []⟩
def hds_Steps_asks_at : He.DefD := ⟨("Steps", some "asks_at"), "asks_at", "Steps.asks_at", defArgs s_Steps_asks_at, defBody s_Steps_asks_at, defScope s_Steps_asks_at, [], []⟩
def hds_Steps_risen_by : He.DefD := ⟨("Steps", some "risen_by"), "risen_by", "Steps.risen_by", defArgs s_Steps_risen_by, defBody s_Steps_risen_by, defScope s_Steps_risen_by, [], []⟩
def hds_style_post : He.DefD := ⟨("style_post", none), "style_post", "style_post", defArgs s_style_post, defBody s_style_post, defScope s_style_post, [], []⟩
def hds__is_turn : He.DefD := ⟨("_is_turn", none), "_is_turn", "_is_turn", defArgs s__is_turn, defBody s__is_turn, defScope s__is_turn, [], []⟩
def hds__is_turns : He.DefD := ⟨("_is_turns", none), "_is_turns", "_is_turns", defArgs s__is_turns, defBody s__is_turns, defScope s__is_turns, [], []⟩
def hds_MachineZ_initZ : He.DefD := ⟨("Machine", some "__init__"), "__init__", "Machine.__init__", defArgs s_MachineZ_initZ, defBody s_MachineZ_initZ, defScope s_MachineZ_initZ, [], []⟩
def hds__is_price : He.DefD := ⟨("_is_price", none), "_is_price", "_is_price", defArgs s__is_price, defBody s__is_price, defScope s__is_price, [], []⟩
def hds_is_moves : He.DefD := ⟨("is_moves", none), "is_moves", "is_moves", defArgs s_is_moves, defBody s_is_moves, defScope s_is_moves, [], []⟩
def hds__is_prices : He.DefD := ⟨("_is_prices", none), "_is_prices", "_is_prices", defArgs s__is_prices, defBody s__is_prices, defScope s__is_prices, [], []⟩
def hds__is_requests : He.DefD := ⟨("_is_requests", none), "_is_requests", "_is_requests", defArgs s__is_requests, defBody s__is_requests, defScope s__is_requests, [], []⟩
def hds_least_ways : He.DefD := ⟨("least_ways", none), "least_ways", "least_ways", defArgs s_least_ways, defBody s_least_ways, defScope s_least_ways, [], []⟩
def hds_SystemZ_initZ : He.DefD := ⟨("System", some "__init__"), "__init__", "System.__init__", defArgs s_SystemZ_initZ, defBody s_SystemZ_initZ, defScope s_SystemZ_initZ, [], []⟩
def hds_System_prices : He.DefD := ⟨("System", some "prices"), "prices", "System.prices", defArgs s_System_prices, defBody s_System_prices, defScope s_System_prices, [], []⟩
def hds__law_cell : He.DefD := ⟨("_law_cell", none), "_law_cell", "_law_cell", defArgs s__law_cell, defBody s__law_cell, defScope s__law_cell, [], []⟩
def hds__law_source : He.DefD := ⟨("_law_source", none), "_law_source", "_law_source", defArgs s__law_source, defBody s__law_source, defScope s__law_source, [], []⟩
def hds__law_draw : He.DefD := ⟨("_law_draw", none), "_law_draw", "_law_draw", defArgs s__law_draw, defBody s__law_draw, defScope s__law_draw, [], []⟩
def hds__law_name : He.DefD := ⟨("_law_name", none), "_law_name", "_law_name", defArgs s__law_name, defBody s__law_name, defScope s__law_name, [], []⟩
def hds__law_moves : He.DefD := ⟨("_law_moves", none), "_law_moves", "_law_moves", defArgs s__law_moves, defBody s__law_moves, defScope s__law_moves, [], []⟩
def hds__law_requests : He.DefD := ⟨("_law_requests", none), "_law_requests", "_law_requests", defArgs s__law_requests, defBody s__law_requests, defScope s__law_requests, [], []⟩
def hds__law_turns : He.DefD := ⟨("_law_turns", none), "_law_turns", "_law_turns", defArgs s__law_turns, defBody s__law_turns, defScope s__law_turns, [], []⟩
def hds__law_copies : He.DefD := ⟨("_law_copies", none), "_law_copies", "_law_copies", defArgs s__law_copies, defBody s__law_copies, defScope s__law_copies, [], []⟩
def hds__law_is_integer : He.DefD := ⟨("_law_is_integer", none), "_law_is_integer", "_law_is_integer", defArgs s__law_is_integer, defBody s__law_is_integer, defScope s__law_is_integer, [], []⟩
def hds__law_ways : He.DefD := ⟨("_law_ways", none), "_law_ways", "_law_ways", defArgs s__law_ways, defBody s__law_ways, defScope s__law_ways, [], []⟩
def hds__law_after : He.DefD := ⟨("_law_after", none), "_law_after", "_law_after", defArgs s__law_after, defBody s__law_after, defScope s__law_after, [], []⟩
def hds__law_asks : He.DefD := ⟨("_law_asks", none), "_law_asks", "_law_asks", defArgs s__law_asks, defBody s__law_asks, defScope s__law_asks, [], []⟩
def hds__law_serving : He.DefD := ⟨("_law_serving", none), "_law_serving", "_law_serving", defArgs s__law_serving, defBody s__law_serving, defScope s__law_serving, [], []⟩
def hds__law_number : He.DefD := ⟨("_law_number", none), "_law_number", "_law_number", defArgs s__law_number, defBody s__law_number, defScope s__law_number, [], []⟩
def hds__law_chosen : He.DefD := ⟨("_law_chosen", none), "_law_chosen", "_law_chosen", defArgs s__law_chosen, defBody s__law_chosen, defScope s__law_chosen, [], []⟩
def hds__law_view : He.DefD := ⟨("_law_view", none), "_law_view", "_law_view", defArgs s__law_view, defBody s__law_view, defScope s__law_view, [], []⟩
def hds__law_related : He.DefD := ⟨("_law_related", none), "_law_related", "_law_related", defArgs s__law_related, defBody s__law_related, defScope s__law_related, [], []⟩
def hds_law : He.DefD := ⟨("law", none), "law", "law", defArgs s_law, defBody s_law, defScope s_law, [], []⟩
def hpr0 : PrD := ⟨"Machine", ⟨("turns", none), "turns", "Machine.turns", defArgs s_Machine_turns, defBody s_Machine_turns, defScope s_Machine_turns, [], []⟩⟩
def hprs : List PrD := [hpr0]
def hfn0 : List He.DefD := [hds_NoRequestZ_initZ, hds_is_integer, hds_is_natural, hds_is_below, hds_is_row, hds_is_tuple_of, hds_is_name, hds_is_known, hds_check_suited, hds_check_mode, hds_check_style, hds__costs, hds__least, hds__first_least, hds__trusting, hds__offset_costs, hds_chosen_post, hds_is_offsets, hds_risen, hds_StepsZ_initZ, hds_Steps_is_view, hds_StepsZis_hint, hds_StepsZhints, hds_Steps_asks_at, hds_Steps_risen_by, hds_style_post, hds__is_turn, hds__is_turns, hds_MachineZ_initZ, hds__is_price]
def hfn1 : List He.DefD := [hds_is_moves, hds__is_prices, hds__is_requests, hds_least_ways, hds_SystemZ_initZ, hds_System_prices, hds__law_cell, hds__law_source, hds__law_draw, hds__law_name, hds__law_moves, hds__law_requests, hds__law_turns, hds__law_copies, hds__law_is_integer, hds__law_ways, hds__law_after, hds__law_asks, hds__law_serving, hds__law_number, hds__law_chosen, hds__law_view, hds__law_related, hds_law]
def hfn : List He.DefD := hfn0 ++ hfn1
def hfa0 : List He.Fa := [.free "all", .free "any", .free "bool", .free "dict", .free "enumerate", .free "int", .free "isinstance", .free "len", .free "list", .free "min", .free "range", .free "sorted", .free "str", .free "tuple", .free "zip", .str "LETTERS" "abcdefghijklmnopqrstuvwxyz", .int "MOST_POSTS" 6, .int "MOST_PRICE" 9, .int "MOST_REQUESTS" 5, .int "MOST_STATES" 4, .glo "is_integer", .glo "is_natural", .glo "is_below", .glo "is_row", .glo "is_tuple_of", .glo "is_name", .glo "is_known", .glo "check_suited", .glo "check_mode", .glo "check_style"]
def hfa1 : List He.Fa := [.glo "_costs", .glo "_least", .glo "_first_least", .glo "_trusting", .glo "_offset_costs", .glo "chosen_post", .glo "is_offsets", .glo "risen", .glo "style_post", .glo "_is_turn", .glo "_is_turns", .glo "_is_price", .glo "is_moves", .glo "_is_prices", .glo "_is_requests", .glo "least_ways", .glo "_law_cell", .glo "_law_source", .glo "_law_draw", .glo "_law_name", .glo "_law_moves", .glo "_law_requests", .glo "_law_turns", .glo "_law_copies", .glo "_law_is_integer", .glo "_law_ways", .glo "_law_after", .glo "_law_asks", .glo "_law_serving", .glo "_law_number"]
def hfa2 : List He.Fa := [.glo "_law_chosen", .glo "_law_view", .glo "_law_related", .glo "law", .glo "NoRequest", .noat "NoRequest" "name", .meth "NoRequest" "__init__", .glo "MODES", .glo "STYLES", .cls "System", .glo "System", .noat "System" "moves", .noat "System" "posts", .noat "System" "names", .noat "System" "ways", .noat "System" "_requests", .mkr "System", .meth "System" "prices", .cls "Machine", .glo "Machine", .noat "Machine" "names", .noat "Machine" "states", .noat "Machine" "_turns", .mkr "Machine", .cls "Steps", .glo "Steps", .noat "Steps" "system", .noat "Steps" "mode", .noat "Steps" "_turns", .noat "Steps" "_risen"]
def hfa3 : List He.Fa := [.mkr "Steps", .meth "Steps" "is_view", .meth "Steps" "_is_hint", .meth "Steps" "_hints", .meth "Steps" "asks_at", .meth "Steps" "risen_by"]
def hfa : List He.Fa := hfa0 ++ hfa1 ++ hfa2 ++ hfa3
def hnames0 : List Str := ["_wall", "__name__", "HintError", "BadSystem", "NoPost", "NoRequest", "BadMachine", "Unsuited", "BadMode", "BadView", "BadAsk", "BadStyle", "LETTERS", "MODES", "is_integer", "is_natural", "is_below", "is_row", "is_tuple_of", "is_name", "is_known", "check_suited", "check_mode", "STYLES", "check_style", "_costs", "_least", "_first_least", "_trusting", "_offset_costs"]
def hnames1 : List Str := ["chosen_post", "is_offsets", "risen", "Steps", "style_post", "MOST_STATES", "_is_turn", "_is_turns", "Machine", "MOST_POSTS", "MOST_REQUESTS", "MOST_PRICE", "_is_price", "is_moves", "_is_prices", "_is_requests", "least_ways", "System", "_law_cell", "_law_source", "_law_draw", "_law_name", "_law_moves", "_law_requests", "_law_turns", "_law_copies", "_law_is_integer", "_law_ways", "_law_after", "_law_asks"]
def hnames2 : List Str := ["_law_serving", "_law_number", "_law_chosen", "_law_view", "_law_related"]
def hnames : List Str := hnames0 ++ hnames1 ++ hnames2
def hex : List Str := ["NoRequest"]
def hexE : List Str := []
def hexI : List Str := []
abbrev hexF0 : PySem.W.Frag → Bool := fun K => He.tupB K "MODES" [.str "none", .str "true", .str "free"]
abbrev hexF1 : PySem.W.Frag → Bool := fun K => He.tupB K "STYLES" [.str "near", .str "calm", .str "trust", .str "offset"]
abbrev hexB : PySem.W.Frag → Bool := fun K => ((hex.all fun x => oexB K (He.ga K x)) && ((hexE.all fun x => errB K (He.ga K x)) && hexI.all fun x => insB K (He.ga K x))) && (hexF0 K && (hexF1 K && true))
abbrev HexP : PySem.W.Frag → Prop := fun K => HasP hexB hprs K
theorem hflag {K : PySem.W.Frag} (e : HexP K) (i : Nat) {x : Str} (h : hex[i]? = some x) : oexB K (He.ga K x) = true := List.all_eq_true.mp (Bool.and_eq_true_iff.mp (Bool.and_eq_true_iff.mp e.flag).1).1 x (List.mem_of_getElem? h)
theorem hflagE {K : PySem.W.Frag} (e : HexP K) (i : Nat) {x : Str} (h : hexE[i]? = some x) : errB K (He.ga K x) = true := List.all_eq_true.mp (Bool.and_eq_true_iff.mp (Bool.and_eq_true_iff.mp (Bool.and_eq_true_iff.mp e.flag).1).2).1 x (List.mem_of_getElem? h)
theorem hflagI {K : PySem.W.Frag} (e : HexP K) (i : Nat) {x : Str} (h : hexI[i]? = some x) : insB K (He.ga K x) = true := List.all_eq_true.mp (Bool.and_eq_true_iff.mp (Bool.and_eq_true_iff.mp (Bool.and_eq_true_iff.mp e.flag).1).2).2 x (List.mem_of_getElem? h)
theorem hflagF0 {K : PySem.W.Frag} (e : HexP K) : hexF0 K = true := (Bool.and_eq_true_iff.mp (Bool.and_eq_true_iff.mp e.flag).2).1
theorem hflagF1 {K : PySem.W.Frag} (e : HexP K) : hexF1 K = true := (Bool.and_eq_true_iff.mp (Bool.and_eq_true_iff.mp (Bool.and_eq_true_iff.mp e.flag).2).2).1
abbrev hR : PySem.W.OpenRow := PySem.W.OpenLaw.row PySem.Challenge.rw_hintslie_k55_posts_of_styles
abbrev hhk : PySem.W.Hook := hookP 5 hfa hfn hexB hprs
def hob (s : PySem.W.SharedT) : AlP := obsPG 5 hfa hfn hexB hprs (HandSHeadRun.getT s)
theorem hob_eq (s : PySem.W.SharedT) : hob s = hhk.obs s.abs := obsPG_eq (HandSHeadRun.getT_eq s)
def hkf (s : PySem.W.SharedT) : PySem.W.Frag := He.frG (HandSHeadRun.getT s) (He.asD (HandSHeadRun.getT s) 5)
open HandSHeadRun PySem.W PySem.Calls in
theorem hrun1 (w : World) (os : OsState) : (endF (stepQ (denQ tabQ) hR.prog w) 6000 hR.prog w os).map (fun s => (looksF hR.prog (boot_heap w.params) s.abs, seenQ (PySem.W.view hR.prog [74]) hnames (importedModules hR.prog.main.body) (fun s => xlAt (PySem.W.view hR.prog [74]) [] s && recOk hR.toRowW.records s) s.abs)) = some (true, openGood (PySem.W.view hR.prog [74]) hnames) := by kernel_rfl
open HandSHeadRun PySem.W PySem.Calls in
theorem hrunA (w : World) (os : OsState) : (endF (stepQ (denQ tabQ) hR.prog w) 6000 hR.prog w os).map (fun s => hfa.all fun f => f.ok (hkf s)) = some true := by kernel_rfl
open HandSHeadRun PySem.W PySem.Calls in
theorem hrunB (w : World) (os : OsState) : (endF (stepQ (denQ tabQ) hR.prog w) 6000 hR.prog w os).map (fun s => hfn.all fun d => d.ok (hkf s)) = some true := by kernel_rfl
open HandSHeadRun PySem.W PySem.Calls in
theorem hrunC (w : World) (os : OsState) : (endF (stepQ (denQ tabQ) hR.prog w) 6000 hR.prog w os).map (fun s => (hfn.map fun d => He.fnW (hkf s) d.at_, hexB (hkf s) && hprs.all fun q => q.ok (hkf s), hprs.map fun q => fnAt (hkf s) (q.getter (hkf s)))) = some (hfn.map He.DefD.val, true, hprs.map fun q => q.d.val) := by kernel_rfl
theorem hrun (w : World) : HandSHeadRun.RunEq hR (PySem.W.view hR.prog [74]) hhk hob 6000 hnames w := fun os => run_parts (hrun1 w os) (hrunA w os) (hrunB w os) (hrunC w os)
end Toy

namespace Toy
open PySem PySem.Spec PyProof.Rows L2
local macro_rules | `(tactic| walk_at "hp") => `(tactic| first
  | assumption
  | exact upd_same
  | (refine Eq.trans (upd_ne (by first | assumption | (apply Ne.symm; assumption))) ?_; walk_at "hp"))
local macro_rules | `(tactic| walk_at "side") => `(tactic| first
  | exact .inl ⟨by omega, by omega⟩
  | exact .inr ⟨by omega, by omega⟩
  | exact ⟨by omega, by omega⟩
  | (show _ ≤ _; omega)
  | (show (_ : Int) < _; omega)
  | decide
  | assumption)
local macro_rules | `(tactic| walk_at "r") => `(tactic| first
  | refine ⟨_, rfl, ?_⟩
  | refine ⟨_, _, rfl, rfl, ?_⟩
  | refine ⟨_, _, _, _, rfl, rfl, SqL.of (by walk_at "hp"), rfl, ?_⟩
  | refine ⟨_, _, _, _, rfl, rfl, SqT.of (by walk_at "hp"), rfl, ?_⟩
  | refine ⟨_, _, _, _, rfl, rfl, (by walk_at "hp"), rfl, ?_⟩
  | refine And.intro rfl ?_
  | refine ⟨_, _, rfl, SqT.of (by walk_at "hp"), ?_⟩
  | refine ⟨_, _, rfl, SqL.of (by walk_at "hp"), ?_⟩
  | refine .inl ⟨_, rfl, ?_⟩
  | refine ⟨_, _, rfl, .inl (SqL.of (by walk_at "hp")), ?_⟩
  | refine ⟨_, _, rfl, .inr (SqT.of (by walk_at "hp")), ?_⟩
  | refine ⟨_, _, rfl, .inl ⟨SqL.of (by walk_at "hp"), ?_⟩⟩
  | refine And.intro (.inl ⟨rfl, _, SqL.of (by walk_at "hp")⟩) ?_
  | refine ⟨_, _, _, rfl, rfl, (by walk_at "hp"), ?_⟩
  | refine ⟨_, _, rfl, (by walk_at "hp"), ?_⟩
  | refine And.intro (by walk_at "side") ?_)
local macro_rules | `(tactic| walk_at "rr") => `(tactic| (repeat walk_at "r"))
local macro_rules | `(tactic| walk_at "k") => `(tactic| first
  | refine ite2 (fun _ => ?_) (fun g => absurd rfl g)
  | refine ite2 (fun g => absurd g (by decide)) (fun _ => ?_)
  | refine ite2 (fun _ => ?_) (fun g => absurd (decide_eq_true (by omega)) g)
  | refine ite2 (fun g => absurd (of_decide_eq_true g) (by omega)) (fun _ => ?_)
  | refine ite2 (fun g => (nd_t g (by omega)).elim) (fun _ => ?_)
  | refine ite2 (fun _ => ?_) (fun g => absurd (nd_f g) (by omega)))
local macro_rules | `(tactic| walk_at "rk") => `(tactic| (repeat (first | walk_at "r" | walk_at "k")))
def spCell (K : PySem.W.Frag) : Sp := fun vs H Q _ => ∃ (a : Addr) (ns : List Int) (j : Nat), vs = [.ref a, .int j] ∧ SqL K H a (ns.map V.int) ∧ ∀ v, Q (.int v) H
def spSource : Sp := fun vs H Q _ => ∃ x : Int, vs = [.int x] ∧ ∀ d H', Same H H' → H d = none → Dice d H' d → Q (.ref d) H'
section
variable {P : Program} {w : World} {K : PySem.W.Frag} {mg : Str → Option Value} {base : Heap}
theorem ok__law_cell (T : Top K mg) : Ok P w K mg base 1 "_law_cell" ["script", "k"] (spCell K) := by
  refine ok_of T.d__law_cell sc__law_cell (fun vs H Q E h => ?_) (fun f cdv A outer s H vs Q E hr h => ?_)
  · obtain ⟨a, ns, j, rfl, _⟩ := h
    rfl
  · obtain ⟨a, ns, j, rfl, hS, k⟩ := h
    skip
    refine ⟨_, (pss_cons (ps_if (pt_cmpR op_lt (pv 1) (pe_callB (id := "len") call_len_seq (by rfl) T.b_len (by decide +kernel) (pa_cons (pv 0) pa_nil)) (nomark _))
      (pss_one (ps_ret (pe_ix ix_list (pv 0) (pv 1) (fun _ _ => rfl))))
      pss_nil)
      (pss_one (ps_ret pe_int))), ?_⟩
    refine ⟨_, rfl, _, rfl, a, _, rfl, .inl hS, _, _, rfl, rfl, _, rfl, ?_⟩
    rw [List.length_map]
    refine ite2 (fun g => ?_) (fun g => ?_)
    · have g := of_decide_eq_true g
      obtain ⟨z, hz⟩ : ∃ z, ns[j]? = some z := ⟨_, List.getElem?_eq_getElem (by omega)⟩
      exact ⟨_, rfl, _, rfl, a, _, _, .int z, rfl, rfl, hS, atI_nat (by rw [List.getElem?_map, hz]; rfl), k z⟩
    · exact k 0
theorem ok__law_source (T : Top K mg) : Ok P w K mg base 1 "_law_source" ["cell"] spSource := by
  refine ok_of T.d__law_source sc__law_source (fun vs H Q E h => ?_) (fun f cdv A outer s H vs Q E hr h => ?_)
  · obtain ⟨x, rfl, _⟩ := h
    rfl
  · obtain ⟨x, rfl, k⟩ := h
    skip
    refine ⟨_, (pss_cons (ps_if (pt_cmpR op_ge (pv 0) (pe_op op_pow pe_int pe_int) (nomark _))
      (pss_one (ps_ret (pe_lst (pa_cons (pv 0) (pa_cons pe_int (pa_cons pe_bl pa_nil))))))
      pss_nil)
      (pss_one (ps_ret (pe_lst (pa_cons (pe_op op_mod (pe_callTy (T := "int") call_int1 (by rfl) T.b_int (by decide +kernel) (pa_cons (pv 0) pa_nil)) pe_int) (pa_cons pe_int (pa_cons pe_bl pa_nil))))))), ?_⟩
    walk_at "rr"
    refine ite2 (fun g => ?_) (fun g => ?_)
    · have g : (10 : Int) ^ 18 ≤ x := of_decide_eq_true g
      have x0 : 0 ≤ x := Int.le_trans (by decide) g
      walk_at "rr"
      exact ⟨(by show 3 ≤ sizeLine; decide), fun d nd => k d _ (same_new nd) nd ⟨⟨_, _, _, 0, 0, upd_same, rfl, x0, Int.le_refl _⟩⟩⟩
    · walk_at "rr"
      exact ⟨(by show 3 ≤ sizeLine; decide), fun d nd => k d _ (same_new nd) nd ⟨⟨_, _, _, 0, 0, upd_same, rfl, Int.emod_nonneg _ (by decide), Int.le_refl _⟩⟩⟩
theorem ok__law_draw (T : Top K mg) : Ok P w K mg base 1 "_law_draw" ["source", "many"] spDraw := by
  refine ok_of T.d__law_draw sc__law_draw (fun vs H Q E h => ?_) (fun f cdv A outer s H vs Q E hr h => ?_)
  · obtain ⟨d, c, n, rfl, _⟩ := h
    rfl
  · obtain ⟨d, c, n, rfl, D, hn, hn2, k⟩ := h
    refine ⟨_, (pss_cons (ps_augS (pv 0) pe_int get_list pe_int ip_add set_list)
      (pss_cons (ps_if (pt_val (pe_ix ix_list (pv 0) pe_int (fun _ _ => rfl)))
      (pss_cons (ps_set (i := 2) sc__law_draw.nd rfl (Or.inl rfl) (pe_op op_mod (pe_callTy (T := "int") call_int1 (by rfl) T.b_int (by decide +kernel) (pa_cons (pe_ix ix_list (pv 0) pe_int (fun _ _ => rfl)) pa_nil)) (pv 1)))
      (pss_cons (ps_asg (pe_op op_fdivW (pe_ix ix_list (pv 0) pe_int (fun _ _ => rfl)) (pv 1)) (pg_sub (pv 0) pe_int set_list))
      (pss_one (ps_ret (pv 2)))))
      pss_nil)
      (pss_cons (ps_set (i := 3) sc__law_draw.nd rfl (Or.inl rfl) (pe_op op_mod (pe_callTy (T := "int") call_int1 (by rfl) T.b_int (by decide +kernel) (pa_cons (pe_op op_mul (pe_op op_add (pe_op op_add (pe_ix ix_list (pv 0) pe_int (fun _ _ => rfl)) (pe_op op_mul pe_int (pe_ix ix_list (pv 0) pe_int (fun _ _ => rfl)))) pe_int) pe_int) pa_nil)) pe_int))
      (pss_cons (ps_set (i := 3) sc__law_draw.nd rfl (Or.inl rfl) (pe_op op_mod (pe_callTy (T := "int") call_int1 (by rfl) T.b_int (by decide +kernel) (pa_cons (pe_op op_mul (pv 3) (pe_op op_add (pe_op op_fdiv (pv 3) pe_int) pe_int)) pa_nil)) pe_int))
      (pss_cons (ps_set (i := 3) sc__law_draw.nd rfl (Or.inl rfl) (pe_op op_mod (pe_callTy (T := "int") call_int1 (by rfl) T.b_int (by decide +kernel) (pa_cons (pe_op op_mul (pv 3) (pe_op op_add (pe_op op_fdiv (pv 3) pe_int) pe_int)) pa_nil)) pe_int))
      (pss_one (ps_ret (pe_op op_mod (pe_callTy (T := "int") call_int1 (by rfl) T.b_int (by decide +kernel) (pa_cons (pe_op op_fdiv (pv 3) pe_int) pa_nil)) (pv 1))))))))), ?_⟩
    obtain ⟨x, i, b, s', t, hd, hc, h0, h1⟩ := D.ex
    subst hc
    walk_at "rr"
    refine ite2 (fun g => ?_) (fun g => ?_)
    · walk_at "rr"
      refine ⟨wide_div hn hn2 (by decide) (by decide), ?_⟩
      walk_at "rr"
      exact k _ _ (Int.emod_nonneg _ (by omega)) (Int.emod_lt_of_pos _ hn) (Keep.upd.trans Keep.upd) ⟨_, _, _, 0, 0, upd_same, rfl, Int.ediv_nonneg h0 (by omega), by show 0 ≤ i + 1; omega⟩
    · walk_at "rr"
      exact k _ _ (Int.emod_nonneg _ (by omega)) (Int.emod_lt_of_pos _ hn) Keep.upd ⟨_, _, _, 0, 0, upd_same, rfl, h0, by show 0 ≤ i + 1; omega⟩
end
end Toy

namespace Toy
open PySem PySem.Spec PyProof.Rows L2
local macro_rules | `(tactic| walk_at "hp") => `(tactic| first
  | assumption
  | exact upd_same
  | (refine Eq.trans (upd_ne (by first | assumption | (apply Ne.symm; assumption))) ?_; walk_at "hp"))
local macro_rules | `(tactic| walk_at "side") => `(tactic| first
  | exact .inl ⟨by omega, by omega⟩
  | exact .inr ⟨by omega, by omega⟩
  | exact ⟨by omega, by omega⟩
  | (show _ ≤ _; omega)
  | (show (_ : Int) < _; omega)
  | decide
  | assumption)
local macro_rules | `(tactic| walk_at "r") => `(tactic| first
  | refine ⟨_, rfl, ?_⟩
  | refine ⟨_, _, rfl, rfl, ?_⟩
  | refine ⟨_, _, _, _, rfl, rfl, SqL.of (by walk_at "hp"), rfl, ?_⟩
  | refine ⟨_, _, _, _, rfl, rfl, SqT.of (by walk_at "hp"), rfl, ?_⟩
  | refine ⟨_, _, _, _, rfl, rfl, (by walk_at "hp"), rfl, ?_⟩
  | refine And.intro rfl ?_
  | refine ⟨_, _, rfl, SqT.of (by walk_at "hp"), ?_⟩
  | refine ⟨_, _, rfl, SqL.of (by walk_at "hp"), ?_⟩
  | refine .inl ⟨_, rfl, ?_⟩
  | refine ⟨_, _, rfl, .inl (SqL.of (by walk_at "hp")), ?_⟩
  | refine ⟨_, _, rfl, .inr (SqT.of (by walk_at "hp")), ?_⟩
  | refine ⟨_, _, rfl, .inl ⟨SqL.of (by walk_at "hp"), ?_⟩⟩
  | refine And.intro (.inl ⟨rfl, _, SqL.of (by walk_at "hp")⟩) ?_
  | refine ⟨_, _, _, rfl, rfl, (by walk_at "hp"), ?_⟩
  | refine ⟨_, _, rfl, (by walk_at "hp"), ?_⟩
  | refine And.intro (by walk_at "side") ?_)
local macro_rules | `(tactic| walk_at "rr") => `(tactic| (repeat walk_at "r"))
local macro_rules | `(tactic| walk_at "k") => `(tactic| first
  | refine ite2 (fun _ => ?_) (fun g => absurd rfl g)
  | refine ite2 (fun g => absurd g (by decide)) (fun _ => ?_)
  | refine ite2 (fun _ => ?_) (fun g => absurd (decide_eq_true (by omega)) g)
  | refine ite2 (fun g => absurd (of_decide_eq_true g) (by omega)) (fun _ => ?_)
  | refine ite2 (fun g => (nd_t g (by omega)).elim) (fun _ => ?_)
  | refine ite2 (fun _ => ?_) (fun g => absurd (nd_f g) (by omega)))
local macro_rules | `(tactic| walk_at "rk") => `(tactic| (repeat (first | walk_at "r" | walk_at "k")))
def zz (k : Nat) : Str := repS "z" k
theorem zz_name : ∀ i, i < 8 → Name 8 (zz (i + 1)) := by
  have h : ∀ i : _root_.Fin 8, 1 ≤ (zz (i.val + 1)).length ∧ (zz (i.val + 1)).length ≤ 8 ∧ ((zz (i.val + 1)).cps.toList.all fun x => decide (97 ≤ x ∧ x ≤ 122)) = true := by decide +kernel
  intro i hi
  obtain ⟨a, b, c⟩ := h ⟨i, hi⟩
  exact ⟨a, by have : (zz (i + 1)).length ≤ 8 := b; omega, ⟨fun x mx => of_decide_eq_true (List.all_eq_true.mp c x mx)⟩⟩
theorem zz_nd : ((List.range 8).map fun i => zz (i + 1)).Nodup := by decide +kernel
theorem in_keys {G : Hp} {α : Type} {R : Hp → V → α → Prop} {kvs : List (Key × V)} {rs : List (Str × α)} (h : DctOf R G kvs rs) (nd : (rs.map (·.1)).Nodup) (z : Str) : (valV kvs (.inr z : Key)).isSome = decide (z ∈ rs.map (·.1)) := by
  by_cases m : z ∈ rs.map (·.1)
  · obtain ⟨p, mp, rfl⟩ := List.mem_map.mp m
    obtain ⟨v, hv, _⟩ := dct_some h nd mp
    rw [hv, decide_eq_true m]; rfl
  · rw [dct_none h m, decide_eq_false m]; rfl
def spLawName : Sp := fun vs H Q _ => ∃ (d c q : Addr) (kvs : List (Key × V)) (rs : List (Str × List (Option Int))), vs = [.ref d, .ref q] ∧ Dice c H d ∧ H q = some (.dK kvs) ∧ DctOf OptT H kvs rs ∧ (rs.map (·.1)).Nodup ∧ rs.length ≤ 7 ∧
  ∀ z H', Name 8 z → ¬ z ∈ rs.map (·.1) → Keep d H H' → Dice c H' d → Q (.str z) H'
section
variable {P : Program} {w : World} {K : PySem.W.Frag} {mg : Str → Option Value} {base : Heap}
theorem ok__law_name (T : Top K mg) : Ok P w K mg base 2 "_law_name" ["source", "taken"] spLawName := by
  refine ok_of T.d__law_name sc__law_name (fun vs H Q E h => ?_) (fun f cdv A outer s H vs Q E hr h => ?_)
  · obtain ⟨d, c, q, kvs, rs, rfl, _⟩ := h
    rfl
  · obtain ⟨d, c, q, kvs, rs, rfl, D, hq, hR, nd, r7, k⟩ := h
    obtain ⟨f__law_draw, fd__law_draw, m__law_draw, k__law_draw, b__law_draw, G__law_draw⟩ := ok__law_draw (P := P) (w := w) (base := base) T
    have hr__law_draw : Room 1 _ := hr.mono (by decide)
    have hu := hu_of hr
    have nqd := D.dK hq
    refine ⟨_, (pss_cons (ps_set (i := 2) sc__law_name.nd rfl (Or.inl rfl) pe_str)
      (pss_cons (ps_for PassesOwn.never rfl (pi_range1 (by rfl) T.b_range (pa_cons (pe_op op_add pe_int (pe_call G__law_draw hr__law_draw rfl m__law_draw k__law_draw b__law_draw .nil pass0 (pa_cons (pv 0) (pa_cons pe_int pa_nil)))) pa_nil)) (pg_name (i := 3) sc__law_name.nd rfl (Or.inl rfl))
      (pss_one (ps_set (i := 2) sc__law_name.nd rfl (Or.inl rfl) (pe_op op_add_str (pv 2) (pe_item_str pe_str (pe_call G__law_draw hr__law_draw rfl m__law_draw k__law_draw b__law_draw .nil pass0 (pa_cons (pv 0) (pa_cons pe_int pa_nil))) (fun _ _ => rfl))))))
      (pss_cons (ps_for PassesOwn.never rfl (pi_range1 (by rfl) T.b_range (pa_cons pe_int pa_nil)) (pg_name (i := 3) sc__law_name.nd rfl (Or.inl rfl))
      (pss_one (ps_if (pt_cmp (pc_din hu (pv 2) (pv 1)))
      (pss_one (ps_set (i := 2) sc__law_name.nd rfl (Or.inl rfl) (pe_op op_repS pe_str (pe_op op_add (pv 3) pe_int))))
      pss_nil)))
      (pss_one (ps_ret (pv 2)))))), ?_⟩
    walk_at "rr"
    refine ⟨_, _, _, rfl, D, by decide, by decide, fun v H1 v0 v1 k1 D1 => ?_⟩
    walk_at "rr"
    refine for_range (lo := 0) (n := (1 + v).toNat) (fun i σ' H2 => ∃ (z : Str) (o : Option V), σ' = [some (.ref d), some (.ref q), some (.str z), o] ∧ Keep d H H2 ∧ Dice c H2 d ∧ z.length = i ∧ Low z)
      ⟨_, none, rfl, k1, D1, (by decide +kernel), ⟨by decide +kernel⟩⟩ ?_ ?_
    · rintro i σ' H2 hi ⟨z, o, rfl, k2, D2, hz, hl⟩
      walk_at "rr"
      refine ⟨_, _, _, rfl, D2, by decide, by decide, fun u H3 u0 u1 k3 D3 => ?_⟩
      obtain ⟨ch, hc, c1, c2⟩ := abc_at u.toNat (by omega)
      refine ⟨_, _, ch, rfl, rfl, by omega, by omega, by rw [show (Str.ofString "abcdefghijklmnopqrstuvwxyz").length = 26 from abc_len]; omega, hc, ?_⟩
      refine ⟨_, _, rfl, rfl, Nat.le_of_lt (small1000 (by rw [hz]; show i + 1 ≤ 1000; omega)), ?_⟩
      exact ⟨_, _, rfl, k2.trans k3, D3, by rw [len_app, hz], hl.app c1 c2⟩
    · rintro σ' H2 ⟨z, o, rfl, k2, D2, hz, hl⟩
      have hq2 := k2 _ _ nqd hq
      have hR2 := hR.firm OptT.firm (keep_tups k2 D)
      have zN : Name 8 z := ⟨by omega, by omega, hl⟩
      walk_at "rr"
      refine for_range (lo := 0) (n := 8) (fun i σ' G => G = H2 ∧ ∃ (z : Str) (o : Option V), σ' = [some (.ref d), some (.ref q), some (.str z), o] ∧ Name 8 z ∧ (¬ z ∈ rs.map (·.1) ∨ ∀ j, j < i → zz (j + 1) ∈ rs.map (·.1))) ⟨rfl, z, o, rfl, zN, .inr fun j hj => absurd hj (Nat.not_lt_zero _)⟩ ?_ ?_
      · rintro i σ' G hi ⟨rfl, z, o, rfl, zN, inv⟩
        rw [Int.zero_add]
        refine ⟨_, rfl, _, rfl, q, _, rfl, DGet.k (k := Sum.inr z) hq2, _, rfl, ?_⟩
        rw [in_keys hR2 nd]
        refine ite2 (fun g => ?_) (fun g => ?_)
        · have g : z ∈ rs.map (·.1) := of_decide_eq_true g
          have inv' : ∀ j, j < i → zz (j + 1) ∈ rs.map (·.1) := inv.elim (fun q => absurd g q) id
          refine ⟨_, rfl, _, _, rfl, rfl, "z", i + 1, rfl, rfl, by omega, by omega, by decide +kernel, by decide +kernel, rfl, zz (i + 1), _, rfl, zz_name i hi, ?_⟩
          by_cases m : zz (i + 1) ∈ rs.map (·.1)
          · refine .inr fun j hj => ?_
            by_cases e : j = i
            · rw [e]; exact m
            · exact inv' j (by omega)
          · exact .inl m
        · have g : ¬ z ∈ rs.map (·.1) := fun m => g (decide_eq_true m)
          exact ⟨rfl, z, _, rfl, zN, .inl g⟩
      · rintro σ' G ⟨rfl, z, o, rfl, zN, inv⟩
        refine ⟨_, rfl, k z _ zN ?_ k2 D2⟩
        rcases inv with inv | inv
        · exact inv
        · have := once_le zz_nd (zs := rs.map (·.1)) fun x mx => by
            obtain ⟨j, mj, rfl⟩ := List.mem_map.mp mx
            exact inv j (List.mem_range.mp mj)
          rw [List.length_map, List.length_map, List.length_range] at this
          omega
end
end Toy

namespace Toy
open PySem PySem.Spec PyProof.Rows L2
local macro_rules | `(tactic| walk_at "hp") => `(tactic| first
  | assumption
  | exact upd_same
  | (refine Eq.trans (upd_ne (by first | assumption | (apply Ne.symm; assumption))) ?_; walk_at "hp"))
local macro_rules | `(tactic| walk_at "side") => `(tactic| first
  | exact .inl ⟨by omega, by omega⟩
  | exact .inr ⟨by omega, by omega⟩
  | exact ⟨by omega, by omega⟩
  | (show _ ≤ _; omega)
  | (show (_ : Int) < _; omega)
  | decide
  | assumption)
local macro_rules | `(tactic| walk_at "r") => `(tactic| first
  | refine ⟨_, rfl, ?_⟩
  | refine ⟨_, _, rfl, rfl, ?_⟩
  | refine ⟨_, _, _, _, rfl, rfl, SqL.of (by walk_at "hp"), rfl, ?_⟩
  | refine ⟨_, _, _, _, rfl, rfl, SqT.of (by walk_at "hp"), rfl, ?_⟩
  | refine ⟨_, _, _, _, rfl, rfl, (by walk_at "hp"), rfl, ?_⟩
  | refine And.intro rfl ?_
  | refine ⟨_, _, rfl, SqT.of (by walk_at "hp"), ?_⟩
  | refine ⟨_, _, rfl, SqL.of (by walk_at "hp"), ?_⟩
  | refine .inl ⟨_, rfl, ?_⟩
  | refine ⟨_, _, rfl, .inl (SqL.of (by walk_at "hp")), ?_⟩
  | refine ⟨_, _, rfl, .inr (SqT.of (by walk_at "hp")), ?_⟩
  | refine ⟨_, _, rfl, .inl ⟨SqL.of (by walk_at "hp"), ?_⟩⟩
  | refine And.intro (.inl ⟨rfl, _, SqL.of (by walk_at "hp")⟩) ?_
  | refine ⟨_, _, _, rfl, rfl, (by walk_at "hp"), ?_⟩
  | refine ⟨_, _, rfl, (by walk_at "hp"), ?_⟩
  | refine And.intro (by walk_at "side") ?_)
local macro_rules | `(tactic| walk_at "rr") => `(tactic| (repeat walk_at "r"))
local macro_rules | `(tactic| walk_at "k") => `(tactic| first
  | refine ite2 (fun _ => ?_) (fun g => absurd rfl g)
  | refine ite2 (fun g => absurd g (by decide)) (fun _ => ?_)
  | refine ite2 (fun _ => ?_) (fun g => absurd (decide_eq_true (by omega)) g)
  | refine ite2 (fun g => absurd (of_decide_eq_true g) (by omega)) (fun _ => ?_)
  | refine ite2 (fun g => (nd_t g (by omega)).elim) (fun _ => ?_)
  | refine ite2 (fun _ => ?_) (fun g => absurd (nd_f g) (by omega)))
local macro_rules | `(tactic| walk_at "rk") => `(tactic| (repeat (first | walk_at "r" | walk_at "k")))
def spReqsM : Sp := fun vs H Q _ => ∃ (d c : Addr) (n m top : Int), vs = [.ref d, .int n, .int m, .int top] ∧ Dice c H d ∧ 1 ≤ n ∧ n ≤ 6 ∧ 1 ≤ m ∧ m ≤ 5 ∧ 0 ≤ top ∧ top ≤ 9 ∧
  ∀ p kvs rs H', H p = none → H' p = some (.dK kvs) → DctOf OptT H' kvs rs → (rs.map (·.1)).Nodup → (rs.length : Int) = m → (∀ q ∈ rs, Prices n top q.2 ∧ Name 8 q.1) → Keep d H H' → Dice c H' d → Q (.ref p) H'
section
variable {P : Program} {w : World} {K : PySem.W.Frag} {mg : Str → Option Value} {base : Heap}
theorem ok__law_moves (T : Top K mg) : Ok P w K mg base 2 "_law_moves" ["source", "posts", "most"] spMoves := by
  refine ok_of T.d__law_moves sc__law_moves (fun vs H Q E h => ?_) (fun f cdv A outer s H vs Q E hr h => ?_)
  · obtain ⟨d, c, n, top, rfl, _⟩ := h
    rfl
  · obtain ⟨d, c, n, top, rfl, D, hn, hn2, ht, ht2, k⟩ := h
    obtain ⟨f__law_draw, fd__law_draw, m__law_draw, k__law_draw, b__law_draw, G__law_draw⟩ := ok__law_draw (P := P) (w := w) (base := base) T
    have hr__law_draw : Room 1 _ := hr.mono (by decide)
    refine ⟨_, (pss_cons (ps_set (i := 3) sc__law_moves.nd rfl (Or.inl rfl) (pe_lst pa_nil))
      (pss_cons (ps_for PassesOwn.never rfl (pi_range1 (by rfl) T.b_range (pa_cons (pv 1) pa_nil)) (pg_name (i := 4) sc__law_moves.nd rfl (Or.inl rfl))
      (pss_cons (ps_set (i := 5) sc__law_moves.nd rfl (Or.inl rfl) (pe_lst pa_nil))
      (pss_cons (ps_for PassesOwn.never rfl (pi_range1 (by rfl) T.b_range (pa_cons (pv 1) pa_nil)) (pg_name (i := 6) sc__law_moves.nd rfl (Or.inl rfl))
      (pss_one (ps_if (pt_cmpR op_eq (pv 4) (pv 6) (nomark _))
      (pss_one (ps_expr (pe_bm PySem.F.plainAttrs_list PySem.F.slot_list_append PySem.F.type_list_append mt_append (pv 5) (pa_cons pe_int pa_nil))))
      (pss_one (ps_expr (pe_bm PySem.F.plainAttrs_list PySem.F.slot_list_append PySem.F.type_list_append mt_append (pv 5) (pa_cons (pe_call G__law_draw hr__law_draw rfl m__law_draw k__law_draw b__law_draw .nil pass0 (pa_cons (pv 0) (pa_cons (pe_op op_add (pv 2) pe_int) pa_nil))) pa_nil)))))))
      (pss_one (ps_expr (pe_bm PySem.F.plainAttrs_list PySem.F.slot_list_append PySem.F.type_list_append mt_append (pv 3) (pa_cons (pe_callTy (T := "tuple") call_tuple_of (by rfl) T.b_tuple (by decide +kernel) (pa_cons (pv 5) pa_nil)) pa_nil)))))))
      (pss_one (ps_ret (pe_callTy (T := "tuple") call_tuple_of (by rfl) T.b_tuple (by decide +kernel) (pa_cons (pv 3) pa_nil)))))), ?_⟩
    refine ⟨(by show 0 ≤ sizeLine; decide), fun l nl => ?_⟩
    have nld := D.ne nl
    have nlc := D.nc nl
    walk_at "rr"
    refine for_range (lo := 0) (n := n.toNat) (fun i σ' H2 => ∃ (as : List V) (rows : List (List Int)) (o o' o'' : Option V), σ' = [some (.ref d), some (.int n), some (.int top), some (.ref l), o, o', o''] ∧ H2 l = some (.lst as) ∧ Paired (IntT H2) as rows ∧ rows.length = i ∧
        (∀ r ∈ rows, (r.length : Int) = n ∧ ∀ x ∈ r, 0 ≤ x ∧ x ≤ top) ∧ (∀ (j : Nat) r, rows[j]? = some r → r[j]? = some 0) ∧ Keep d H H2 ∧ Dice c H2 d)
      ⟨[], [], none, none, none, rfl, upd_same, .nil, rfl, (by simp), (by simp), same_keep (same_new nl), D.upd nld nlc⟩ ?_ ?_
    · rintro i σ' H2 hi ⟨as, rows, o, o', o'', rfl, hl, hp, e1, e2, e3, k2, D2⟩
      refine ⟨(by show 0 ≤ sizeLine; decide), fun L nL => ?_⟩
      have nLd := D2.ne nL
      have nLc := D2.nc nL
      have nLl : l ≠ L := ne_of_none hl nL
      walk_at "rr"
      refine for_range (lo := 0) (n := n.toNat) (fun j σ' H3 => (∃ o'', σ' = [some (.ref d), some (.int n), some (.int top), some (.ref l), some (.int (0 + (i : Int))), some (.ref L), o'']) ∧ ∃ xs : List Int, H3 L = some (.lst (xs.map V.int)) ∧ xs.length = j ∧ (∀ x ∈ xs, 0 ≤ x ∧ x ≤ top) ∧ (i < j → xs[i]? = some 0) ∧ Keep d H2 H3 ∧ Dice c H3 d)
        ⟨⟨o'', rfl⟩, [], upd_same, rfl, (by simp), (by omega), same_keep (same_new nL), D2.upd nLd nLc⟩ ?_ ?_
      · rintro j σ' H3 hj ⟨⟨o'', rfl⟩, xs, hL, f1, f2, f3, k3, D3⟩
        rw [Int.zero_add, Int.zero_add]
        have add : ∀ {G : Hp} {u : Int}, Keep d H2 G → Dice c G d → G L = some (.lst (xs.map V.int)) → 0 ≤ u → u ≤ top → (i = j → u = 0) →
            ∃ xs' : List Int, (upd G L (.lst (xs.map V.int ++ [.int u]))) L = some (.lst (xs'.map V.int)) ∧ xs'.length = j + 1 ∧ (∀ x ∈ xs', 0 ≤ x ∧ x ≤ top) ∧ (i < j + 1 → xs'[i]? = some 0) ∧ Keep d H2 (upd G L (.lst (xs.map V.int ++ [.int u]))) ∧ Dice c (upd G L (.lst (xs.map V.int ++ [.int u]))) d := by
          intro G u kG DG hG q0 q1 q2
          refine ⟨xs ++ [u], ?_, ?_, ?_, ?_, kG.mut nL, DG.upd nLd nLc⟩
          · rw [upd_same, List.map_append]; rfl
          · rw [List.length_append, f1]; rfl
          · intro x hx
            rcases List.mem_append.mp hx with q | q
            · exact f2 x q
            · rw [List.mem_singleton.mp q]; omega
          · intro lt
            by_cases e : i = j
            · rw [q2 e, List.getElem?_append_right (by omega), show i - xs.length = 0 by omega]; rfl
            · rw [List.getElem?_append_left (by omega)]; exact f3 (by omega)
        have small : (xs.map V.int).length < sizeLine := by rw [List.length_map]; exact small1000 (by omega)
        refine ⟨_, rfl, _, rfl, rfl, _, rfl, ?_⟩
        refine ite2 (fun g => ?_) (fun g => ?_)
        · refine ⟨_, rfl, .inl ⟨rfl, _, SqL.of hL⟩, L, _, _, rfl, rfl, hL, small, ⟨_, rfl⟩, ?_⟩
          exact add k3 D3 hL (Int.le_refl _) ht fun _ => rfl
        · refine ⟨_, rfl, .inl ⟨rfl, _, SqL.of hL⟩, ?_⟩
          refine ⟨_, rfl, _, rfl, _, _, rfl, rfl, d, c, _, rfl, D3, by omega, by omega, fun v H4 v0 v1 k4 D4 => ?_⟩
          have hL4 := k4 _ _ nLd hL
          refine ⟨L, _, _, rfl, rfl, hL4, small, ⟨_, rfl⟩, ?_⟩
          refine add (k3.trans k4) D4 hL4 v0 (by omega) fun e => absurd ?_ g
          rw [e]; exact decide_eq_true rfl
      · rintro σ' H3 ⟨⟨o'', rfl⟩, xs, hL, f1, f2, f3, k3, D3⟩
        have hi2 : i < n.toNat := hi
        have hl3 : H3 l = some (.lst as) := k3 _ _ nld hl
        refine ⟨_, rfl, .inl ⟨rfl, _, SqL.of hl3⟩, _, rfl, L, _, rfl, .inl ⟨SqL.of hL, fun t nt3 => ?_⟩⟩
        have ntl : t ≠ l := ne_of_none hl3 nt3 |>.symm
        have ntd := D3.ne nt3
        have ntc := D3.nc nt3
        have hl4 : (upd H3 t (.tup (xs.map V.int))) l = some (.lst as) := (upd_ne ntl.symm).trans hl3
        refine ⟨l, _, _, rfl, rfl, hl4, ?_, as ++ [.ref t], rows ++ [xs], _, _, _, rfl, upd_same, ?_, ?_, ?_, ?_, ?_, ?_⟩
        · rw [prd_len hp, e1]; exact small1000 (by omega)
        · refine Paired.snoc (prd_imp hp fun x y r => IntT.firm H2 _ x y (fun a xs' e => ?_) r) ⟨t, rfl, ?_⟩
          · have e4 : H3 a = some (.tup xs') := k3.tup D2 e
            rw [upd_ne (ne_of e4 hl3 (by intro z; cases z)), upd_ne (ne_of_none e4 nt3)]
            exact e4
          · rw [upd_ne ntl, upd_same]
        · rw [List.length_append, e1]; rfl
        · intro r hr
          rcases List.mem_append.mp hr with q | q
          · exact e2 r q
          · rw [List.mem_singleton.mp q, f1]
            exact ⟨by omega, f2⟩
        · intro j r hj
          by_cases e : j < rows.length
          · rw [List.getElem?_append_left e] at hj
            exact e3 j r hj
          · have e5 : j = rows.length := by
              have := (List.getElem?_eq_some_iff.mp hj).1
              rw [List.length_append] at this
              simp at this
              omega
            subst e5
            rw [List.getElem?_append_right (Nat.le_refl _), Nat.sub_self] at hj
            have hj : xs = r := Option.some.inj hj
            rw [← hj, e1]
            exact f3 (by omega)
        · exact Keep.mut (Keep.mut (k2.trans k3) (k2.free ntd (k3.free ntd nt3))) nl
        · exact (D3.upd ntd ntc).upd nld nlc
    · rintro σ' H2 ⟨as, rows, o, o', o'', rfl, hl, hp, e1, e2, e3, k2, D2⟩
      walk_at "rr"
      intro t nt
      walk_at "rr"
      refine k _ rows _ ⟨t, _, rfl, upd_same, prd_imp hp fun x y r => IntT.firm H2 _ x y (same_tups (same_new nt)) r⟩ ⟨by omega, e2, e3⟩ (k2.mut (k2.free (D2.ne nt) nt)) (D2.upd (D2.ne nt) (D2.nc nt))
theorem ok__law_requests (T : Top K mg) : Ok P w K mg base 3 "_law_requests" ["source", "posts", "many", "most"] spReqsM := by
  refine ok_of T.d__law_requests sc__law_requests (fun vs H Q E h => ?_) (fun f cdv A outer s H vs Q E hr h => ?_)
  · obtain ⟨d, c, n, m, top, rfl, _⟩ := h
    rfl
  · obtain ⟨d, c, n, m, top, rfl, D, n1, n6, m1, m5, t0, t9, k⟩ := h
    obtain ⟨f__law_name, fd__law_name, m__law_name, k__law_name, b__law_name, G__law_name⟩ := ok__law_name (P := P) (w := w) (base := base) T
    have hr__law_name : Room 2 _ := hr.mono (by decide)
    obtain ⟨f__law_draw, fd__law_draw, m__law_draw, k__law_draw, b__law_draw, G__law_draw⟩ := ok__law_draw (P := P) (w := w) (base := base) T
    have hr__law_draw : Room 1 _ := hr.mono (by decide)
    have hu := hu_of hr
    refine ⟨_, (pss_cons (ps_set (i := 4) sc__law_requests.nd rfl (Or.inl rfl) pe_dnewK)
      (pss_cons (ps_for PassesOwn.never rfl (pi_range1 (by rfl) T.b_range (pa_cons (pv 2) pa_nil)) (pg_name (i := 5) sc__law_requests.nd rfl (Or.inl rfl))
      (pss_cons (ps_set (i := 6) sc__law_requests.nd rfl (Or.inl rfl) (pe_call G__law_name hr__law_name rfl m__law_name k__law_name b__law_name .nil pass0 (pa_cons (pv 0) (pa_cons (pv 4) pa_nil))))
      (pss_cons (ps_set (i := 7) sc__law_requests.nd rfl (Or.inl rfl) (pe_lst pa_nil))
      (pss_cons (ps_for PassesOwn.never rfl (pi_range1 (by rfl) T.b_range (pa_cons (pv 1) pa_nil)) (pg_name (i := 8) sc__law_requests.nd rfl (Or.inl rfl))
      (pss_cons (ps_set (i := 9) sc__law_requests.nd rfl (Or.inl rfl) (pe_call G__law_draw hr__law_draw rfl m__law_draw k__law_draw b__law_draw .nil pass0 (pa_cons (pv 0) (pa_cons (pe_op op_add (pv 3) pe_int) pa_nil))))
      (pss_one (ps_if (pt_cmpR op_gt (pv 9) (pv 3) (nomark _))
      (pss_one (ps_expr (pe_bm PySem.F.plainAttrs_list PySem.F.slot_list_append PySem.F.type_list_append mt_append (pv 7) (pa_cons pe_non pa_nil))))
      (pss_one (ps_expr (pe_bm PySem.F.plainAttrs_list PySem.F.slot_list_append PySem.F.type_list_append mt_append (pv 7) (pa_cons (pv 9) pa_nil))))))))
      (C8.pss_cut (ps_if (pt_cmpR op_eq (pe_callB (id := "len") call_len_seq (by rfl) T.b_len (by decide +kernel) (pa_cons (pe_lc (own := [("price", 9)]) (g := gName 9) rfl sc__law_requests.nd (pi_list (pv 7)) (blkOk_by (own := [("price", 9)]) (N := ["source", "posts", "many", "most", "requests", "k", "name", "row", "post", "price"]) (sc := defScope s__law_requests) (by decide +kernel)) (fun _ _ _ _ _ => (pg_name (i := 9) sc__law_requests.nd rfl (Or.inl rfl))) (fun _ _ _ _ _ => (pts_one (pt_cmpR op_notN (pv 9) pe_non (nomark _)))) (fun _ _ _ _ _ => (pv 9))) pa_nil)) pe_int (nomark _))
      (pss_one (ps_asg pe_int (pg_sub (pv 7) (pe_call G__law_draw hr__law_draw rfl m__law_draw k__law_draw b__law_draw .nil pass0 (pa_cons (pv 0) (pa_cons (pv 1) pa_nil))) set_list)))
      pss_nil)
      (pss_one (ps_dput hu (pv 4) (pv 6) (pe_callTy (T := "tuple") call_tuple_of (by rfl) T.b_tuple (by decide +kernel) (pa_cons (pv 7) pa_nil)) rfl)))))))
      (pss_one (ps_ret (pv 4))))), ?_⟩
    intro p np
    have npd := D.ne np
    have npc := D.nc np
    walk_at "rr"
    refine for_range (lo := 0) (n := m.toNat) (fun i σ' H2 => ∃ (kvs : List (Key × V)) (rs : List (Str × List (Option Int))) (o5 o6 o7 o8 o9 : Option V), σ' = [some (.ref d), some (.int n), some (.int m), some (.int top), some (.ref p), o5, o6, o7, o8, o9] ∧
        H2 p = some (.dK kvs) ∧ DctOf OptT H2 kvs rs ∧ (rs.map (·.1)).Nodup ∧ rs.length = i ∧ (∀ q ∈ rs, Prices n top q.2 ∧ Name 8 q.1) ∧ Keep d H H2 ∧ Dice c H2 d)
      ⟨[], [], none, none, none, none, none, rfl, upd_same, .nil, .nil, rfl, (by simp), same_keep (same_new np), D.upd npd npc⟩ ?_ ?_
    · rintro i σ' H2 hi ⟨kvs, rs, o5, o6, o7, o8, o9, rfl, hp, hR, nd, e1, e2, k2, D2⟩
      refine ⟨_, rfl, _, rfl, d, c, p, kvs, rs, rfl, D2, hp, hR, nd, by omega, fun z H3 zN zno k3 D3 => ?_⟩
      have hp3 := k3 _ _ npd hp
      have hR3 := hR.firm OptT.firm (keep_tups k3 D2)
      refine ⟨(by show 0 ≤ sizeLine; decide), fun L nL => ?_⟩
      have nLd := D3.ne nL
      have nLc := D3.nc nL
      have nLp : p ≠ L := ne_of_none hp3 nL
      walk_at "rr"
      refine for_range (lo := 0) (n := n.toNat) (fun j σ' G => (∃ o8 o9, σ' = [some (.ref d), some (.int n), some (.int m), some (.int top), some (.ref p), some (.int (0 + (i : Int))), some (.str z), some (.ref L), o8, o9]) ∧ ∃ xs : List (Option Int), G L = some (.lst (xs.map vO)) ∧ xs.length = j ∧ (∀ x, some x ∈ xs → 0 ≤ x ∧ x ≤ top) ∧ Keep d H3 G ∧ Dice c G d)
        ⟨⟨o8, o9, rfl⟩, [], upd_same, rfl, (by simp), same_keep (same_new nL), D3.upd nLd nLc⟩ ?_ ?_
      · rintro j σ' G hj ⟨⟨o8, o9, rfl⟩, xs, hL, f1, f2, kG, DG⟩
        refine ⟨_, rfl, _, rfl, _, _, rfl, rfl, d, c, _, rfl, DG, by omega, by omega, fun v G2 v0 v1 k4 D4 => ?_⟩
        have hL4 := k4 _ _ nLd hL
        have small : (xs.map vO).length < sizeLine := by rw [List.length_map]; exact small1000 (by omega)
        refine ⟨_, rfl, _, rfl, _, _, rfl, rfl, _, rfl, ?_⟩
        refine ite2 (fun g => ?_) (fun g => ?_)
        · refine ⟨_, rfl, .inl ⟨rfl, _, SqL.of hL4⟩, L, _, _, rfl, rfl, hL4, small, ⟨_, _, rfl⟩, xs ++ [none], ?_, ?_, ?_, (kG.trans k4).mut nL, D4.upd nLd nLc⟩
          · rw [upd_same, List.map_append]; rfl
          · rw [List.length_append, f1]; rfl
          · intro x hx
            rcases List.mem_append.mp hx with q | q
            · exact f2 x q
            · cases List.mem_singleton.mp q
        · have g : ¬ top < v := fun q => g (decide_eq_true q)
          refine ⟨_, rfl, .inl ⟨rfl, _, SqL.of hL4⟩, _, rfl, L, _, _, rfl, rfl, hL4, small, ⟨_, _, rfl⟩, xs ++ [some v], ?_, ?_, ?_, (kG.trans k4).mut nL, D4.upd nLd nLc⟩
          · rw [upd_same, List.map_append]; rfl
          · rw [List.length_append, f1]; rfl
          · intro x hx
            rcases List.mem_append.mp hx with q | q
            · exact f2 x q
            · cases List.mem_singleton.mp q; omega
      · rintro σ' G ⟨⟨o8, o9, rfl⟩, xs, hL, f1, f2, kG, DG⟩
        refine ⟨fun σ' G2 => (∃ o8 o9, σ' = [some (.ref d), some (.int n), some (.int m), some (.int top), some (.ref p), some (.int (0 + (i : Int))), some (.str z), some (.ref L), o8, o9]) ∧ ∃ xs : List (Option Int), G2 L = some (.lst (xs.map vO)) ∧ Prices n top xs ∧ Keep d H3 G2 ∧ Dice c G2 d, ?_, ?_⟩
        · refine ⟨_, rfl, L, rfl, ⟨_, SqL.of hL⟩, fun F nF => ?_⟩
          have nFd := DG.ne nF
          have nFc := DG.nc nF
          have nFL : L ≠ F := ne_of_none hL nF
          refine lc_list (K := K) (a := L) (xs := xs.map vO) (fun i G2 => G2 F = some (.lst (((xs.take i).filterMap id).map V.int)) ∧ Same G G2) ⟨upd_same, same_new nF⟩ (fun i G2 _ h2 => SqL.of (h2.2 _ _ hL)) ?_ ?_
          · rintro i x G2 hi ⟨e1, e2⟩
            obtain ⟨o, ho, rfl⟩ := map_at hi
            have hil := (List.getElem?_eq_some_iff.mp ho).1
            refine ⟨rfl, ?_⟩
            cases o with
            | none =>
              refine ⟨_, rfl, rfl, _, rfl, ite2 (fun g => absurd g (by decide)) (fun _ => ⟨?_, e2⟩)⟩
              rw [e1, List.take_add_one, ho, List.filterMap_append]
              simp
            | some y =>
              refine ⟨_, rfl, rfl, _, rfl, ite2 (fun _ => ?_) (fun g => absurd rfl g)⟩
              refine ⟨_, rfl, _, e1, ?_, ?_, same_upd e2 nF⟩
              · rw [List.length_map]
                exact small1000 (Nat.le_trans (List.length_filterMap_le _ _) (by rw [List.length_take]; omega))
              · rw [upd_same, List.take_add_one, ho, List.filterMap_append, List.map_append]
                rfl
          rintro G2 ⟨e1, e2⟩
          rw [List.length_map, List.take_length] at e1
          have D5 := DG.same e2
          have hL5 := e2 _ _ hL
          refine ⟨F, _, rfl, .inl (SqL.of e1), rfl, _, rfl, ?_⟩
          rw [List.length_map]
          refine ite2 (fun g => ?_) (fun g => ?_)
          · refine ⟨_, rfl, _, rfl, _, rfl, d, c, n, rfl, D5, by omega, by omega, fun u G3 u0 u1 k6 D6 => ?_⟩
            have hL6 := k6 _ _ nLd hL5
            refine ⟨L, _, _, u.toNat, rfl, rfl, hL6, ?_, ⟨_, _, rfl⟩, xs.set u.toNat (some 0), ?_, ⟨?_, ?_, ?_⟩, ((kG.trans (same_keep e2)).trans k6).mut nL, D6.upd nLd nLc⟩
            · unfold ixN
              rw [List.length_map, if_pos (by omega), if_pos (by omega)]
            · rw [upd_same, List.map_set]; rfl
            · rw [List.length_set]; omega
            · intro x hx
              rcases List.mem_or_eq_of_mem_set hx with q | q
              · exact f2 x q
              · cases q; omega
            · exact ⟨0, List.mem_iff_getElem?.mpr ⟨u.toNat, List.getElem?_set_self (by omega)⟩⟩
          · refine ⟨⟨_, _, rfl⟩, xs, hL5, ⟨by omega, f2, ?_⟩, kG.trans (same_keep e2), D5⟩
            refine Classical.byContradiction fun hno => g (decide_eq_true ?_)
            have : xs.filterMap id = [] := List.filterMap_eq_nil_iff.mpr fun y hy => by
              cases y with
              | none => rfl
              | some y => exact (hno ⟨y, hy⟩).elim
            rw [this]; rfl
        rintro σ' G2 ⟨⟨o8, o9, rfl⟩, ys, hL2, pr, k7, D7⟩
        have hp7 := k7 _ _ npd hp3
        have hR7 := hR3.firm OptT.firm (keep_tups k7 D3)
        refine ⟨_, rfl, L, _, rfl, .inl ⟨SqL.of hL2, fun t nt => ?_⟩⟩
        have ntd := D7.ne nt
        have ntc := D7.nc nt
        have ntp : p ≠ t := ne_of_none hp7 nt
        have hp8 : (upd G2 t (.tup (ys.map vO))) p = some (.dK kvs) := (upd_ne ntp).trans hp7
        have ht8 : (upd G2 t (.tup (ys.map vO))) t = some (.tup (ys.map vO)) := upd_same
        have hR8 : DctOf OptT (upd G2 t (.tup (ys.map vO))) kvs rs := hR7.firm OptT.firm (same_tups (same_new nt))
        have D8 : Dice c (upd G2 t (.tup (ys.map vO))) d := D7.upd ntd ntc
        have k27 := (k2.trans k3).trans k7
        have k8 : Keep d H (upd G2 t (.tup (ys.map vO))) := k27.mut (k27.free ntd nt)
        generalize upd G2 t (.tup (ys.map vO)) = G8 at *
        have hkl : kvs.length = i := by rw [dct_len hR, e1]
        refine ⟨_, rfl, _, rfl, p, _, rfl, DPut.k (k := Sum.inr z) hp8 (small1000 (by omega)), ?_⟩
        rw [putK_new _ (dct_none hR8 zno)]
        have hRn : DctOf OptT (upd G8 p (.dK (kvs ++ [(Sum.inr z, .ref t)]))) kvs rs := hR8.firm OptT.firm fun a xs' e => by
          rw [upd_ne (ne_of e hp8 (by intro z; cases z))]; exact e
        have hvn : OptT (upd G8 p (.dK (kvs ++ [(Sum.inr z, .ref t)]))) (.ref t) ys := ⟨t, rfl, (upd_ne ntp.symm).trans ht8⟩
        refine ⟨_, rs ++ [(z, ys)], _, _, _, _, _, rfl, upd_same, Paired.snoc hRn ⟨rfl, hvn⟩, ?_, by rw [List.length_append, e1]; rfl, ?_, k8.mut np, D8.upd npd npc⟩
        · rw [List.map_append]
          exact nd_snoc nd zno
        · intro q hq
          rcases List.mem_append.mp hq with m | m
          · exact e2 q m
          · rw [List.mem_singleton.mp m]; exact ⟨pr, zN⟩
    · rintro σ' H2 ⟨kvs, rs, o5, o6, o7, o8, o9, rfl, hp, hR, nd, e1, e2, k2, D2⟩
      walk_at "rr"
      exact k p kvs rs H2 np hp hR nd (by omega) e2 k2 D2
end
end Toy

namespace Toy
end Toy

namespace Toy
open PySem PySem.Spec PyProof.Rows L2
local macro_rules | `(tactic| walk_at "hp") => `(tactic| first
  | assumption
  | exact upd_same
  | (refine Eq.trans (upd_ne (by first | assumption | (apply Ne.symm; assumption))) ?_; walk_at "hp"))
local macro_rules | `(tactic| walk_at "side") => `(tactic| first
  | exact .inl ⟨by omega, by omega⟩
  | exact .inr ⟨by omega, by omega⟩
  | exact ⟨by omega, by omega⟩
  | (show _ ≤ _; omega)
  | (show (_ : Int) < _; omega)
  | decide
  | assumption)
local macro_rules | `(tactic| walk_at "r") => `(tactic| first
  | refine ⟨_, rfl, ?_⟩
  | refine ⟨_, _, rfl, rfl, ?_⟩
  | refine ⟨_, _, _, _, rfl, rfl, SqL.of (by walk_at "hp"), rfl, ?_⟩
  | refine ⟨_, _, _, _, rfl, rfl, SqT.of (by walk_at "hp"), rfl, ?_⟩
  | refine ⟨_, _, _, _, rfl, rfl, (by walk_at "hp"), rfl, ?_⟩
  | refine And.intro rfl ?_
  | refine ⟨_, _, rfl, SqT.of (by walk_at "hp"), ?_⟩
  | refine ⟨_, _, rfl, SqL.of (by walk_at "hp"), ?_⟩
  | refine .inl ⟨_, rfl, ?_⟩
  | refine ⟨_, _, rfl, .inl (SqL.of (by walk_at "hp")), ?_⟩
  | refine ⟨_, _, rfl, .inr (SqT.of (by walk_at "hp")), ?_⟩
  | refine ⟨_, _, rfl, .inl ⟨SqL.of (by walk_at "hp"), ?_⟩⟩
  | refine And.intro (.inl ⟨rfl, _, SqL.of (by walk_at "hp")⟩) ?_
  | refine ⟨_, _, _, rfl, rfl, (by walk_at "hp"), ?_⟩
  | refine ⟨_, _, rfl, (by walk_at "hp"), ?_⟩
  | refine And.intro (by walk_at "side") ?_)
local macro_rules | `(tactic| walk_at "rr") => `(tactic| (repeat walk_at "r"))
local macro_rules | `(tactic| walk_at "k") => `(tactic| first
  | refine ite2 (fun _ => ?_) (fun g => absurd rfl g)
  | refine ite2 (fun g => absurd g (by decide)) (fun _ => ?_)
  | refine ite2 (fun _ => ?_) (fun g => absurd (decide_eq_true (by omega)) g)
  | refine ite2 (fun g => absurd (of_decide_eq_true g) (by omega)) (fun _ => ?_)
  | refine ite2 (fun g => (nd_t g (by omega)).elim) (fun _ => ?_)
  | refine ite2 (fun _ => ?_) (fun g => absurd (nd_f g) (by omega)))
local macro_rules | `(tactic| walk_at "rk") => `(tactic| (repeat (first | walk_at "r" | walk_at "k")))
theorem isTup_noG {K : PySem.W.Frag} {H : Hp} {m : Int} {v : V} {n : String} (h : TyG K H v n) (hn : (n == "tuple") = false) : isTup H m v = false := by
  cases h with
  | blt h => exact isTup_no h hn
  | ins h _ _ => unfold isTup; simp only [h]
  | err h _ => unfold isTup ExO at *; simp only [h]
theorem tyG_blt {K : PySem.W.Frag} {H : Hp} {v : V} {n : String} (h : TyG K H v n) (e : n ≠ "object") : tyN H v = some n := by
  cases h with
  | blt h => exact h
  | ins _ _ _ => exact absurd rfl e
  | err _ _ => exact absurd rfl e
theorem tyG_tup {K : PySem.W.Frag} {H : Hp} {v : V} (h : TyG K H v "tuple") : ∃ a xs, v = .ref a ∧ H a = some (.tup xs) := tyN_tup (tyG_blt h (by decide))
theorem isOf_tup (n : String) : isOf n "tuple" = (n == "tuple") := by unfold isOf; simp
theorem isOf_str (n : String) : isOf n "str" = (n == "str") := by unfold isOf; simp
theorem isOf_bool (n : String) : isOf n "bool" = (n == "bool") := by unfold isOf; simp
def spTupG (K : PySem.W.Frag) : Sp := fun vs H Q _ => ∃ (v : V) (n : String) (m : Int), vs = [v, .int m] ∧ TyG K H v n ∧ Q (.bl (isTup H m v)) H
section
variable {P : Program} {w : World} {K : PySem.W.Frag} {mg : Str → Option Value} {base : Heap}
theorem okG_is_tuple_of (T : Top K mg) : Ok P w K mg base 1 "is_tuple_of" ["thing", "many"] (spTupG K) := by
  refine ok_of T.d_is_tuple_of sc_is_tuple_of (fun vs H Q E h => ?_) (fun f cdv A outer s H vs Q E hr h => ?_)
  · obtain ⟨v, n, m, rfl, _⟩ := h
    rfl
  · obtain ⟨v, n, m, rfl, hn, k⟩ := h
    refine ⟨_, (pss_one (ps_ret (pe_and (pe_callB (id := "isinstance") (call_isG (T := "tuple") (by simp [six])) (by rfl) T.b_isinstance (by decide +kernel) (pa_cons (pv 0) (pa_cons (pe_bltn (v := .ty "tuple") (u := .type "tuple") (by rfl) T.b_tuple (by decide +kernel) rfl) pa_nil))) (pe_one (pe_cmpR op_eq (pe_callB call_len_seq (by rfl) T.b_len (by decide +kernel) (pa_cons (pv 0) pa_nil)) (pv 1) (nomark _)))))), ?_⟩
    refine ⟨_, rfl, _, n, rfl, hn, _, rfl, ?_⟩
    rw [isOf_tup]
    refine ite2 (fun g => ?_) (fun g => ?_)
    · have g := beq_iff_eq.mp g
      subst g
      obtain ⟨a, xs, rfl, ha⟩ := tyG_tup hn
      have e : isTup H m (.ref a) = decide ((xs.length : Int) = m) := by unfold isTup; simp only [ha]
      rw [e] at k
      walk_at "rr"
      rw [dec_int]
      exact k
    · rw [isTup_noG hn (by simpa using g)] at k
      exact k
theorem ok_is_tuple_of (T : Top K mg) : Ok P w K mg base 1 "is_tuple_of" ["thing", "many"] spIsTupleOf := by
  obtain ⟨f, fd, m, k, b, F⟩ := okG_is_tuple_of (P := P) (w := w) (base := base) T
  exact ⟨f, fd, m, k, b, F.imp fun vs H Q E ⟨v, n, i, e, h, q⟩ => ⟨v, n, i, e, .blt h, q⟩⟩
end
end Toy

namespace Toy
open PySem PySem.Spec PyProof.Rows L2
local macro_rules | `(tactic| walk_at "hp") => `(tactic| first
  | assumption
  | exact upd_same
  | (refine Eq.trans (upd_ne (by first | assumption | (apply Ne.symm; assumption))) ?_; walk_at "hp"))
local macro_rules | `(tactic| walk_at "side") => `(tactic| first
  | exact .inl ⟨by omega, by omega⟩
  | exact .inr ⟨by omega, by omega⟩
  | exact ⟨by omega, by omega⟩
  | (show _ ≤ _; omega)
  | (show (_ : Int) < _; omega)
  | decide
  | assumption)
local macro_rules | `(tactic| walk_at "r") => `(tactic| first
  | refine ⟨_, rfl, ?_⟩
  | refine ⟨_, _, rfl, rfl, ?_⟩
  | refine ⟨_, _, _, _, rfl, rfl, SqL.of (by walk_at "hp"), rfl, ?_⟩
  | refine ⟨_, _, _, _, rfl, rfl, SqT.of (by walk_at "hp"), rfl, ?_⟩
  | refine ⟨_, _, _, _, rfl, rfl, (by walk_at "hp"), rfl, ?_⟩
  | refine And.intro rfl ?_
  | refine ⟨_, _, rfl, SqT.of (by walk_at "hp"), ?_⟩
  | refine ⟨_, _, rfl, SqL.of (by walk_at "hp"), ?_⟩
  | refine .inl ⟨_, rfl, ?_⟩
  | refine ⟨_, _, rfl, .inl (SqL.of (by walk_at "hp")), ?_⟩
  | refine ⟨_, _, rfl, .inr (SqT.of (by walk_at "hp")), ?_⟩
  | refine ⟨_, _, rfl, .inl ⟨SqL.of (by walk_at "hp"), ?_⟩⟩
  | refine And.intro (.inl ⟨rfl, _, SqL.of (by walk_at "hp")⟩) ?_
  | refine ⟨_, _, _, rfl, rfl, (by walk_at "hp"), ?_⟩
  | refine ⟨_, _, rfl, (by walk_at "hp"), ?_⟩
  | refine And.intro (by walk_at "side") ?_)
local macro_rules | `(tactic| walk_at "rr") => `(tactic| (repeat walk_at "r"))
local macro_rules | `(tactic| walk_at "k") => `(tactic| first
  | refine ite2 (fun _ => ?_) (fun g => absurd rfl g)
  | refine ite2 (fun g => absurd g (by decide)) (fun _ => ?_)
  | refine ite2 (fun _ => ?_) (fun g => absurd (decide_eq_true (by omega)) g)
  | refine ite2 (fun g => absurd (of_decide_eq_true g) (by omega)) (fun _ => ?_)
  | refine ite2 (fun g => (nd_t g (by omega)).elim) (fun _ => ?_)
  | refine ite2 (fun _ => ?_) (fun g => absurd (nd_f g) (by omega)))
local macro_rules | `(tactic| walk_at "rk") => `(tactic| (repeat (first | walk_at "r" | walk_at "k")))
section
variable {P : Program} {w : World} {K : PySem.W.Frag} {mg : Str → Option Value} {base : Heap}
theorem ok_is_integer (T : Top K mg) : Ok P w K mg base 1 "is_integer" ["thing"] spIsInteger := by
  refine ok_of T.d_is_integer sc_is_integer (fun vs H Q E h => ?_) (fun f cdv A outer s H vs Q E hr h => ?_)
  · obtain ⟨v, n, rfl, _⟩ := h
    rfl
  · obtain ⟨v, n, rfl, hn, k⟩ := h
    refine ⟨_, (pss_one (ps_ret (pe_and (pe_callB (id := "isinstance") (call_isN (T := "int")) (by rfl) T.b_isinstance (by decide +kernel) (pa_cons (pv 0) (pa_cons (pe_bltn (v := .ty "int") (u := .type "int") (by rfl) T.b_int (by decide +kernel) rfl) pa_nil))) (pe_one (pe_not (pe_callB (id := "isinstance") (call_isN (T := "bool")) (by rfl) T.b_isinstance (by decide +kernel) (pa_cons (pv 0) (pa_cons (pe_bltn (v := .ty "bool") (u := .type "bool") (by rfl) T.b_bool (by decide +kernel) rfl) pa_nil)))))))), ?_⟩
    refine ⟨_, rfl, _, n, _, rfl, hn, kit7 hn (T := "int") (by simp), _, rfl, ?_⟩
    refine ite2 (fun g => ?_) (fun g => ?_)
    · refine ⟨_, rfl, _, n, _, rfl, hn, kit7 hn (T := "bool") (by simp), _, rfl, ?_⟩
      have e : (!(n == "bool" || n == "bool" && "bool" == "int")) = isI v := by
        rw [← isI_n hn]
        simp only [Bool.or_eq_true, Bool.and_eq_true, beq_iff_eq] at g
        rcases g with g | g
        · subst g; rfl
        · rw [g.1]; rfl
      rw [e]; exact k
    · have e : isI v = false := by
        rw [← isI_n hn]
        simp only [Bool.or_eq_true, Bool.and_eq_true, beq_iff_eq, not_or] at g
        simp [g.1]
      rw [e] at k; exact k
theorem ok_is_natural (T : Top K mg) : Ok P w K mg base 2 "is_natural" ["thing"] spIsNatural := by
  refine ok_of T.d_is_natural sc_is_natural (fun vs H Q E h => ?_) (fun f cdv A outer s H vs Q E hr h => ?_)
  · obtain ⟨v, n, rfl, _⟩ := h
    rfl
  · obtain ⟨v, n, rfl, hn, k⟩ := h
    obtain ⟨f_is_integer, fd_is_integer, m_is_integer, k_is_integer, b_is_integer, G_is_integer⟩ := ok_is_integer (P := P) (w := w) (base := base) T
    have hr_is_integer : Room 1 _ := hr.mono (by decide)
    refine ⟨_, (pss_one (ps_ret (pe_and (pe_call G_is_integer hr_is_integer rfl m_is_integer k_is_integer b_is_integer .nil pass0 (pa_cons (pv 0) pa_nil)) (pe_one (pe_cmpR op_ge (pv 0) pe_int (nomark _)))))), ?_⟩
    refine ⟨_, rfl, _, n, rfl, hn, _, rfl, ?_⟩
    refine ite2 (fun g => ?_) (fun g => ?_)
    · obtain ⟨i, rfl⟩ : ∃ i, v = .int i := by cases v <;> first | exact ⟨_, rfl⟩ | cases g
      walk_at "rr"
      exact k
    · rw [isNat_no (by simpa using g)] at k
      exact k
theorem ok_is_below (T : Top K mg) : Ok P w K mg base 3 "is_below" ["thing", "many"] spIsBelow := by
  refine ok_of T.d_is_below sc_is_below (fun vs H Q E h => ?_) (fun f cdv A outer s H vs Q E hr h => ?_)
  · obtain ⟨v, n, m, rfl, _⟩ := h
    rfl
  · obtain ⟨v, n, m, rfl, hn, k⟩ := h
    obtain ⟨f_is_natural, fd_is_natural, m_is_natural, k_is_natural, b_is_natural, G_is_natural⟩ := ok_is_natural (P := P) (w := w) (base := base) T
    have hr_is_natural : Room 2 _ := hr.mono (by decide)
    refine ⟨_, (pss_one (ps_ret (pe_and (pe_call G_is_natural hr_is_natural rfl m_is_natural k_is_natural b_is_natural .nil pass0 (pa_cons (pv 0) pa_nil)) (pe_one (pe_cmpR op_lt (pv 0) (pv 1) (nomark _)))))), ?_⟩
    refine ⟨_, rfl, _, n, rfl, hn, _, rfl, ?_⟩
    refine ite2 (fun g => ?_) (fun g => ?_)
    · obtain ⟨i, rfl⟩ : ∃ i, v = .int i := by cases v <;> first | exact ⟨_, rfl⟩ | cases g
      have g : 0 ≤ i := of_decide_eq_true g
      walk_at "rr"
      have e : isBelow m (.int i) = decide (i < m) := by
        show decide (0 ≤ i ∧ i < m) = _
        simp [g]
      rw [e] at k; exact k
    · rw [isBelow_no (by simpa using g)] at k
      exact k
theorem ok_is_row (T : Top K mg) : Ok P w K mg base 1 "is_row" ["thing"] spIsRow := by
  refine ok_of T.d_is_row sc_is_row (fun vs H Q E h => ?_) (fun f cdv A outer s H vs Q E hr h => ?_)
  · obtain ⟨v, n, rfl, _⟩ := h
    rfl
  · obtain ⟨v, n, rfl, hn, k⟩ := h
    refine ⟨_, (pss_one (ps_ret (pe_callB (id := "isinstance") (call_isN2 (T := "list") (U := "tuple")) (by rfl) T.b_isinstance (by decide +kernel) (pa_cons (pv 0) (pa_cons (pe_tup (pa_cons (pe_bltn (v := .ty "list") (u := .type "list") (by rfl) T.b_list (by decide +kernel) rfl) (pa_cons (pe_bltn (v := .ty "tuple") (u := .type "tuple") (by rfl) T.b_tuple (by decide +kernel) rfl) pa_nil))) pa_nil))))), ?_⟩
    refine ⟨_, rfl, (by show 2 ≤ sizeLine; decide), fun p hp => ?_⟩
    have hn' := tyN_keep (same_new (o := .tup [.ty "list", .ty "tuple"]) hp) hn
    have hb : (n == "list" || n == "bool" && "list" == "int" || (n == "tuple" || n == "bool" && "tuple" == "int")) = (n == "list" || n == "tuple") := by simp
    refine ⟨_, p, n, n == "list" || n == "tuple", rfl, upd_same, hn', (by rintro rfl; rfl), (by rintro rfl; rfl), ⟨_, _, kit7 hn (by simp), kit7 hn (by simp), hb.symm⟩, ?_⟩
    exact k _ (same_new hp)
theorem ok__is_price (T : Top K mg) : Ok P w K mg base 4 "_is_price" ["thing"] spIsPrice := by
  refine ok_of T.d__is_price sc__is_price (fun vs H Q E h => ?_) (fun f cdv A outer s H vs Q E hr h => ?_)
  · obtain ⟨v, n, rfl, _⟩ := h
    rfl
  · obtain ⟨v, n, rfl, hn, k⟩ := h
    obtain ⟨t_MOST_PRICE, g_MOST_PRICE⟩ := T.g_MOST_PRICE
    obtain ⟨f_is_below, fd_is_below, m_is_below, k_is_below, b_is_below, G_is_below⟩ := ok_is_below (P := P) (w := w) (base := base) T
    have hr_is_below : Room 3 _ := hr.mono (by decide)
    refine ⟨_, (pss_one (ps_ret (pe_call G_is_below hr_is_below rfl m_is_below k_is_below b_is_below .nil pass0 (pa_cons (pv 0) (pa_cons (pe_op op_add (pe_glob (v := .int 9) rfl g_MOST_PRICE ⟨_, rfl⟩) pe_int) pa_nil))))), ?_⟩
    walk_at "rr"
    exact ⟨_, n, _, rfl, hn, k⟩
theorem ok__law_is_integer (T : Top K mg) : Ok P w K mg base 1 "_law_is_integer" ["thing"] spIsInteger := by
  refine ok_of T.d__law_is_integer sc__law_is_integer (fun vs H Q E h => ?_) (fun f cdv A outer s H vs Q E hr h => ?_)
  · obtain ⟨v, n, rfl, _⟩ := h
    rfl
  · obtain ⟨v, n, rfl, hn, k⟩ := h
    refine ⟨_, (pss_one (ps_ret (pe_and (pe_callB (id := "isinstance") (call_isN (T := "int")) (by rfl) T.b_isinstance (by decide +kernel) (pa_cons (pv 0) (pa_cons (pe_bltn (v := .ty "int") (u := .type "int") (by rfl) T.b_int (by decide +kernel) rfl) pa_nil))) (pe_one (pe_not (pe_callB (id := "isinstance") (call_isN (T := "bool")) (by rfl) T.b_isinstance (by decide +kernel) (pa_cons (pv 0) (pa_cons (pe_bltn (v := .ty "bool") (u := .type "bool") (by rfl) T.b_bool (by decide +kernel) rfl) pa_nil)))))))), ?_⟩
    refine ⟨_, rfl, _, n, _, rfl, hn, kit7 hn (T := "int") (by simp), _, rfl, ?_⟩
    refine ite2 (fun g => ?_) (fun g => ?_)
    · refine ⟨_, rfl, _, n, _, rfl, hn, kit7 hn (T := "bool") (by simp), _, rfl, ?_⟩
      have e : (!(n == "bool" || n == "bool" && "bool" == "int")) = isI v := by
        rw [← isI_n hn]
        simp only [Bool.or_eq_true, Bool.and_eq_true, beq_iff_eq] at g
        rcases g with g | g
        · subst g; rfl
        · rw [g.1]; rfl
      rw [e]; exact k
    · have e : isI v = false := by
        rw [← isI_n hn]
        simp only [Bool.or_eq_true, Bool.and_eq_true, beq_iff_eq, not_or] at g
        simp [g.1]
      rw [e] at k; exact k
end
end Toy

namespace Toy
open PySem PySem.Spec PyProof.Rows L2
local macro_rules | `(tactic| walk_at "hp") => `(tactic| first
  | assumption
  | exact upd_same
  | (refine Eq.trans (upd_ne (by first | assumption | (apply Ne.symm; assumption))) ?_; walk_at "hp"))
local macro_rules | `(tactic| walk_at "side") => `(tactic| first
  | exact .inl ⟨by omega, by omega⟩
  | exact .inr ⟨by omega, by omega⟩
  | exact ⟨by omega, by omega⟩
  | (show _ ≤ _; omega)
  | (show (_ : Int) < _; omega)
  | decide
  | assumption)
local macro_rules | `(tactic| walk_at "r") => `(tactic| first
  | refine ⟨_, rfl, ?_⟩
  | refine ⟨_, _, rfl, rfl, ?_⟩
  | refine ⟨_, _, _, _, rfl, rfl, SqL.of (by walk_at "hp"), rfl, ?_⟩
  | refine ⟨_, _, _, _, rfl, rfl, SqT.of (by walk_at "hp"), rfl, ?_⟩
  | refine ⟨_, _, _, _, rfl, rfl, (by walk_at "hp"), rfl, ?_⟩
  | refine And.intro rfl ?_
  | refine ⟨_, _, rfl, SqT.of (by walk_at "hp"), ?_⟩
  | refine ⟨_, _, rfl, SqL.of (by walk_at "hp"), ?_⟩
  | refine .inl ⟨_, rfl, ?_⟩
  | refine ⟨_, _, rfl, .inl (SqL.of (by walk_at "hp")), ?_⟩
  | refine ⟨_, _, rfl, .inr (SqT.of (by walk_at "hp")), ?_⟩
  | refine ⟨_, _, rfl, .inl ⟨SqL.of (by walk_at "hp"), ?_⟩⟩
  | refine And.intro (.inl ⟨rfl, _, SqL.of (by walk_at "hp")⟩) ?_
  | refine ⟨_, _, _, rfl, rfl, (by walk_at "hp"), ?_⟩
  | refine ⟨_, _, rfl, (by walk_at "hp"), ?_⟩
  | refine And.intro (by walk_at "side") ?_)
local macro_rules | `(tactic| walk_at "rr") => `(tactic| (repeat walk_at "r"))
local macro_rules | `(tactic| walk_at "k") => `(tactic| first
  | refine ite2 (fun _ => ?_) (fun g => absurd rfl g)
  | refine ite2 (fun g => absurd g (by decide)) (fun _ => ?_)
  | refine ite2 (fun _ => ?_) (fun g => absurd (decide_eq_true (by omega)) g)
  | refine ite2 (fun g => absurd (of_decide_eq_true g) (by omega)) (fun _ => ?_)
  | refine ite2 (fun g => (nd_t g (by omega)).elim) (fun _ => ?_)
  | refine ite2 (fun _ => ?_) (fun g => absurd (nd_f g) (by omega)))
local macro_rules | `(tactic| walk_at "rk") => `(tactic| (repeat (first | walk_at "r" | walk_at "k")))
section
variable {P : Program} {w : World} {K : PySem.W.Frag} {mg : Str → Option Value} {base : Heap}
theorem ok_is_name (T : Top K mg) : Ok P w K mg base 1 "is_name" ["thing"] spIsName := by
  refine ok_of T.d_is_name sc_is_name (fun vs H Q E h => ?_) (fun f cdv A outer s H vs Q E hr h => ?_)
  · obtain ⟨v, n, rfl, _⟩ := h
    rfl
  · obtain ⟨v, n, rfl, hn, hl, k⟩ := h
    obtain ⟨t_LETTERS, g_LETTERS⟩ := T.g_LETTERS
    refine ⟨_, (pss_one (ps_ret (pe_and (pe_callB (id := "isinstance") (call_isN (T := "str")) (by rfl) T.b_isinstance (by decide +kernel) (pa_cons (pv 0) (pa_cons (pe_bltn (v := .ty "str") (u := .type "str") (by rfl) T.b_str (by decide +kernel) rfl) pa_nil))) (pe_and (pe_chain op_le op_le pe_int (pe_callB call_len_str (by rfl) T.b_len (by decide +kernel) (pa_cons (pv 0) pa_nil)) pe_int) (pe_one (pe_callB (id := "all") (cr_all rfl) (by rfl) T.b_all (by decide +kernel) (pa_cons (pe_lc (own := [("letter", 1)]) (g := gName 1) rfl sc_is_name.nd (pi_str (pv 0)) (blkOk_by (own := [("letter", 1)]) (N := ["thing", "letter"]) (sc := defScope s_is_name) (by decide +kernel)) (fun _ _ _ _ _ => (pg_name (i := 1) sc_is_name.nd rfl (Or.inl rfl))) (fun _ _ _ _ _ => pts_nil) (fun _ _ _ _ _ => (pe_cmpR op_in_sign (pv 1) (pe_glob (v := .str "abcdefghijklmnopqrstuvwxyz") rfl g_LETTERS ⟨_, rfl⟩) rfl))) pa_nil))))))), ?_⟩
    refine ⟨_, rfl, _, n, _, rfl, hn, kit7 hn (T := "str") (by simp), _, rfl, ?_⟩
    have e0 : (n == "str" || n == "bool" && "str" == "int") = (n == "str") := by simp
    rw [e0]
    refine ite2 (fun g => ?_) (fun g => ?_)
    · have g := beq_iff_eq.mp g
      subst g
      obtain ⟨z, rfl⟩ := tyN_str hn
      have hz := hl z rfl
      have dom : isNm (.str z) = decide (1 ≤ z.length ∧ z.length ≤ 8 ∧ ∀ c ∈ z.cps.toList, 97 ≤ c ∧ c ≤ 122) := rfl
      walk_at "rr"
      refine ite2 (fun g => ?_) (fun g => ?_)
      · have g : 1 ≤ (z.length : Int) := of_decide_eq_true g
        walk_at "rr"
        refine ite2 (fun g2 => ?_) (fun g2 => ?_)
        · have g2 : (z.length : Int) ≤ 8 := of_decide_eq_true g2
          walk_at "rr"
          intro D nD
          have hsz : z.cps.size = z.length := rfl
          refine lc_it walk_str (fun i H2 => H2 D = some (.lst (((z.cps.toList.take i).map fun c => decide (97 ≤ c ∧ c ≤ 122)).map V.bl)) ∧ Same H H2) ⟨upd_same, same_new nD⟩ (fun _ _ _ _ => True.intro) ?_ ?_
          · rintro i x H2 H3 hi ⟨e1, e2⟩ ⟨rfl, ch, hc, rfl⟩
            refine ⟨rfl, ?_⟩
            refine yesT ?_
            refine ⟨_, rfl, ch, _, rfl, rfl, _, e1, ?_, ?_, ?_⟩
            · rw [List.length_map, List.length_map, List.length_take]; exact small1000 (by omega)
            · rw [upd_same, abc_mem]
              have hc' : z.cps.toList[i]? = some ch := by rw [Array.getElem?_toList]; exact hc
              rw [List.take_add_one, hc', List.map_append, List.map_append]
              rfl
            · intro b o hb
              rw [upd_ne (ne_of_none hb nD)]
              exact e2 b o hb
          · rintro H2 ⟨e1, e2⟩
            refine ⟨D, _, rfl, SqL.of e1, ?_⟩
            have hall : ((List.take z.cps.size z.cps.toList).map fun c => decide (97 ≤ c ∧ c ≤ 122)).all id = isNm (.str z) := by
              rw [dom, show z.cps.size = z.cps.toList.length from (Array.length_toList).symm, List.take_length]
              rw [List.all_map]
              by_cases hq : ∀ c ∈ z.cps.toList, 97 ≤ c ∧ c ≤ 122
              · rw [decide_eq_true ⟨by omega, by omega, hq⟩, List.all_eq_true]
                intro c hc
                exact decide_eq_true (hq c hc)
              · rw [decide_eq_false fun z => hq z.2.2]
                refine Bool.eq_false_iff.mpr fun hh => hq fun c hc => ?_
                exact of_decide_eq_true (List.all_eq_true.mp hh c hc)
            rw [hall]
            exact k H2 e2
        · have e : isNm (.str z) = false := by
            rw [dom]; exact decide_eq_false fun q => g2 (decide_eq_true (by omega))
          rw [e] at k; exact k _ (Same.refl _)
      · have e : isNm (.str z) = false := by
          rw [dom]; exact decide_eq_false fun q => g (decide_eq_true (by omega))
        rw [e] at k; exact ⟨_, rfl, ite2 (fun q => by cases q) (fun _ => k _ (Same.refl _))⟩
    · have e : isNm v = false := by
        cases v with
        | str z => exact absurd (Option.some.inj hn) (fun q => g (by rw [← q]; rfl))
        | _ => rfl
      rw [e] at k; exact k _ (Same.refl _)
end
end Toy

namespace Toy
open PySem PySem.Spec PyProof.Rows L2
local macro_rules | `(tactic| walk_at "hp") => `(tactic| first
  | assumption
  | exact upd_same
  | (refine Eq.trans (upd_ne (by first | assumption | (apply Ne.symm; assumption))) ?_; walk_at "hp"))
local macro_rules | `(tactic| walk_at "side") => `(tactic| first
  | exact .inl ⟨by omega, by omega⟩
  | exact .inr ⟨by omega, by omega⟩
  | exact ⟨by omega, by omega⟩
  | (show _ ≤ _; omega)
  | (show (_ : Int) < _; omega)
  | decide
  | assumption)
local macro_rules | `(tactic| walk_at "r") => `(tactic| first
  | refine ⟨_, rfl, ?_⟩
  | refine ⟨_, _, rfl, rfl, ?_⟩
  | refine ⟨_, _, _, _, rfl, rfl, SqL.of (by walk_at "hp"), rfl, ?_⟩
  | refine ⟨_, _, _, _, rfl, rfl, SqT.of (by walk_at "hp"), rfl, ?_⟩
  | refine ⟨_, _, _, _, rfl, rfl, (by walk_at "hp"), rfl, ?_⟩
  | refine And.intro rfl ?_
  | refine ⟨_, _, rfl, SqT.of (by walk_at "hp"), ?_⟩
  | refine ⟨_, _, rfl, SqL.of (by walk_at "hp"), ?_⟩
  | refine .inl ⟨_, rfl, ?_⟩
  | refine ⟨_, _, rfl, .inl (SqL.of (by walk_at "hp")), ?_⟩
  | refine ⟨_, _, rfl, .inr (SqT.of (by walk_at "hp")), ?_⟩
  | refine ⟨_, _, rfl, .inl ⟨SqL.of (by walk_at "hp"), ?_⟩⟩
  | refine And.intro (.inl ⟨rfl, _, SqL.of (by walk_at "hp")⟩) ?_
  | refine ⟨_, _, _, rfl, rfl, (by walk_at "hp"), ?_⟩
  | refine ⟨_, _, rfl, (by walk_at "hp"), ?_⟩
  | refine And.intro (by walk_at "side") ?_)
local macro_rules | `(tactic| walk_at "rr") => `(tactic| (repeat walk_at "r"))
local macro_rules | `(tactic| walk_at "k") => `(tactic| first
  | refine ite2 (fun _ => ?_) (fun g => absurd rfl g)
  | refine ite2 (fun g => absurd g (by decide)) (fun _ => ?_)
  | refine ite2 (fun _ => ?_) (fun g => absurd (decide_eq_true (by omega)) g)
  | refine ite2 (fun g => absurd (of_decide_eq_true g) (by omega)) (fun _ => ?_)
  | refine ite2 (fun g => (nd_t g (by omega)).elim) (fun _ => ?_)
  | refine ite2 (fun _ => ?_) (fun g => absurd (nd_f g) (by omega)))
local macro_rules | `(tactic| walk_at "rk") => `(tactic| (repeat (first | walk_at "r" | walk_at "k")))
section
variable {P : Program} {w : World} {K : PySem.W.Frag} {mg : Str → Option Value} {base : Heap}
theorem ok_is_moves (T : Top K mg) : Ok P w K mg base 5 "is_moves" ["thing"] spIsMoves := by
  refine ok_of T.d_is_moves sc_is_moves (fun vs H Q E h => ?_) (fun f cdv A outer s H vs Q E hr h => ?_)
  · obtain ⟨v, rows, n, top, rfl, _⟩ := h
    rfl
  · obtain ⟨v, rows, n, top, rfl, ⟨a, vs, rfl, ha, hp⟩, S, h1, h6, h9, k⟩ := h
    obtain ⟨t_MOST_POSTS, g_MOST_POSTS⟩ := T.g_MOST_POSTS
    obtain ⟨f__is_price, fd__is_price, m__is_price, k__is_price, b__is_price, G__is_price⟩ := ok__is_price (P := P) (w := w) (base := base) T
    have hr__is_price : Room 4 _ := hr.mono (by decide)
    obtain ⟨f_is_tuple_of, fd_is_tuple_of, m_is_tuple_of, k_is_tuple_of, b_is_tuple_of, G_is_tuple_of⟩ := ok_is_tuple_of (P := P) (w := w) (base := base) T
    have hr_is_tuple_of : Room 1 _ := hr.mono (by decide)
    have hl : (vs.length : Int) = n := by rw [prd_len hp]; exact S.len
    refine ⟨_, (pss_cons (ps_if (PW.pt (pw_or (pt_not (pt_val (pe_callB (id := "isinstance") (call_isN (T := "tuple")) (by rfl) T.b_isinstance (by decide +kernel) (pa_cons (pv 0) (pa_cons (pe_bltn (v := .ty "tuple") (u := .type "tuple") (by rfl) T.b_tuple (by decide +kernel) rfl) pa_nil))))) (pw_or1 (pt_not (pt_chain op_le op_le pe_int (pe_callB (id := "len") call_len_seq (by rfl) T.b_len (by decide +kernel) (pa_cons (pv 0) pa_nil)) (pe_glob (v := .int 6) rfl g_MOST_POSTS ⟨_, rfl⟩))))))
      (pss_one (ps_ret pe_bl))
      pss_nil)
      (pss_cons (ps_for PassesOwn.never rfl (pi_enumT (by rfl) T.b_enumerate (pa_cons (pv 0) pa_nil)) (pg_tup rfl (pgs_cons (pg_name (i := 1) sc_is_moves.nd rfl (Or.inl rfl)) (pgs_cons (pg_name (i := 2) sc_is_moves.nd rfl (Or.inl rfl)) pgs_nil)))
      (pss_cons (ps_if (PW.pt (pw_or (pt_not (pt_val (pe_call G_is_tuple_of hr_is_tuple_of rfl m_is_tuple_of k_is_tuple_of b_is_tuple_of .nil pass0 (pa_cons (pv 2) (pa_cons (pe_callB (id := "len") call_len_seq (by rfl) T.b_len (by decide +kernel) (pa_cons (pv 0) pa_nil)) pa_nil))))) (pw_or1 (pt_not (pt_val (pe_callB (id := "all") (cr_all rfl) (by rfl) T.b_all (by decide +kernel) (pa_cons (pe_lc (own := [("price", 3)]) (g := gName 3) rfl sc_is_moves.nd (pi_tup (pv 2)) (blkOk_by (own := [("price", 3)]) (N := ["thing", "post", "prices", "price"]) (sc := defScope s_is_moves) (by decide +kernel)) (fun _ _ _ _ _ => (pg_name (i := 3) sc_is_moves.nd rfl (Or.inl rfl))) (fun _ _ _ _ _ => pts_nil) (fun _ _ _ _ _ => (pe_call G__is_price hr__is_price rfl m__is_price k__is_price b__is_price .nil pass0 (pa_cons (pv 3) pa_nil)))) pa_nil)))))))
      (pss_one (ps_ret pe_bl))
      pss_nil)
      (pss_one (ps_if (pt_cmpR op_ne (pe_ix ix_tup (pv 2) (pv 1) (fun _ _ => rfl)) pe_int (nomark _))
      (pss_one (ps_ret pe_bl))
      pss_nil))))
      (pss_one (ps_ret pe_bl)))), ?_⟩
    have hty : tyN H (.ref a) = some "tuple" := by unfold tyN; simp only [ha]
    refine ⟨_, rfl, _, "tuple", _, rfl, hty, kit7 hty (by simp), _, rfl, ?_⟩
    refine ite2 (fun g => by simp at g) (fun _ => ?_)
    walk_at "rk"
    refine for_it walk_enumT (fun i σ' H2 => Same H H2 ∧ ∃ o o' : Option V, σ' = [some (.ref a), o, o', none]) ⟨Same.refl _, none, none, rfl⟩ (fun i σ' H2 _ h2 => SqT.of (h2.1 _ _ ha)) ?_ ?_
    · rintro i x σ' H2 H3 hi ⟨e2, o, o', rfl⟩ ⟨p, x', y', rfl, np, rfl, e3, e4⟩
      obtain ⟨row, hrow, b, rfl, hb⟩ := prd_at1 hp e4
      have hb2 := e2 _ _ hb
      have npb : b ≠ p := ne_of_none hb2 np
      have hrm := S.row row (List.mem_of_getElem? hrow)
      cases e3
      refine ⟨p, _, rfl, SqT.of upd_same, rfl, _, _, rfl, _, _, rfl, rfl, ?_⟩
      have hb3 : (upd H2 p (.tup [.int (i : Nat), .ref b])) b = some (.tup (row.map V.int)) := (upd_ne npb).trans hb2
      have ha3 : (upd H2 p (.tup [.int (i : Nat), .ref b])) a = some (.tup vs) := (upd_ne (ne_of_none (e2 _ _ ha) np)).trans (e2 _ _ ha)
      have hrl : (row.length : Int) = vs.length := by rw [hrm.1, hl]
      have hi2 : i < vs.length := hi
      walk_at "rk"
      refine ⟨_, "tuple", _, rfl, ty_tup hb3, ?_⟩
      rw [tup_isTup hb3 (by rw [List.length_map]; exact hrl)]
      walk_at "rk"
      refine ⟨⟨_, SqT.of hb3⟩, ?_⟩
      intro D nD
      have hrow100 : row.length ≤ 6 := by omega
      refine lc_tup (K := K) (a := b) (xs := row.map V.int) (fun j H4 => H4 D = some (.lst ((List.replicate j true).map V.bl)) ∧ Same (upd H2 p (.tup [.int (i : Nat), .ref b])) H4) ⟨upd_same, same_new nD⟩ (fun j H4 _ h4 => SqT.of (h4.2 _ _ hb3)) ?_ ?_
      · rintro j z H4 hj ⟨q1, q2⟩
        obtain ⟨y, hy, rfl⟩ := map_at hj
        have hjl := (List.getElem?_eq_some_iff.mp hy).1
        have hym := hrm.2 y (List.mem_of_getElem? hy)
        refine ⟨rfl, ?_⟩
        refine yesT ?_
        walk_at "rr"
        rw [below_int hym.1 (by omega)]
        refine ⟨_, q1, ?_, ?_, same_upd q2 nD⟩
        · rw [List.length_map, List.length_replicate]; exact small1000 (by omega)
        · rw [upd_same, rep_snoc]
      · rintro H4 ⟨q1, q2⟩
        walk_at "rr"
        rw [rep_all]
        walk_at "rk"
        have hd0 := S.diag i row hrow
        refine ⟨b, _, (i : Nat), .int 0, rfl, rfl, SqT.of (q2 _ _ hb3), atI_nat (by rw [List.getElem?_map, hd0]; rfl), ?_⟩
        walk_at "rk"
        exact ⟨(same_upd e2 (e2.free np)).trans q2, _, _, rfl⟩
    · rintro σ' H2 ⟨e2, o, o', rfl⟩
      walk_at "rk"
      exact k H2 e2
theorem ok__is_prices (T : Top K mg) : Ok P w K mg base 5 "_is_prices" ["thing", "posts"] spIsPrices := by
  refine ok_of T.d__is_prices sc__is_prices (fun vs H Q E h => ?_) (fun f cdv A outer s H vs Q E hr h => ?_)
  · obtain ⟨v, row, n, top, rfl, _⟩ := h
    rfl
  · obtain ⟨v, row, n, top, rfl, ⟨a, rfl, ha⟩, S, h6, h9, k⟩ := h
    obtain ⟨f_is_tuple_of, fd_is_tuple_of, m_is_tuple_of, k_is_tuple_of, b_is_tuple_of, G_is_tuple_of⟩ := ok_is_tuple_of (P := P) (w := w) (base := base) T
    have hr_is_tuple_of : Room 1 _ := hr.mono (by decide)
    obtain ⟨f__is_price, fd__is_price, m__is_price, k__is_price, b__is_price, G__is_price⟩ := ok__is_price (P := P) (w := w) (base := base) T
    have hr__is_price : Room 4 _ := hr.mono (by decide)
    have hl : (row.length : Int) = n := S.len
    refine ⟨_, (pss_cons (ps_if (pt_not (pt_val (pe_call G_is_tuple_of hr_is_tuple_of rfl m_is_tuple_of k_is_tuple_of b_is_tuple_of .nil pass0 (pa_cons (pv 0) (pa_cons (pv 1) pa_nil)))))
      (pss_one (ps_ret pe_bl))
      pss_nil)
      (pss_cons (ps_setLc (i := 2) (own := [("price", 3)]) (g := gName 3) rfl sc__is_prices.nd rfl rfl (sw_true rfl rfl rfl (by decide +kernel)) (pi_tup (pv 0)) (blkOk_by (own := [("price", 3)]) (N := ["thing", "posts", "told", "price"]) (sc := defScope s__is_prices) (by decide +kernel)) (fun _ _ _ _ _ => (pg_name (i := 3) sc__is_prices.nd rfl (Or.inl rfl))) (fun _ _ _ _ _ => (pts_one (pt_cmpR op_notN (pv 3) pe_non (nomark _)))) (fun _ _ _ _ _ => (pv 3)))
      (pss_one (ps_ret (pe_and (pe_cmpR op_gt (pe_callB (id := "len") call_len_seq (by rfl) T.b_len (by decide +kernel) (pa_cons (pv 2) pa_nil)) pe_int (nomark _)) (pe_one (pe_callB (id := "all") (cr_all rfl) (by rfl) T.b_all (by decide +kernel) (pa_cons (pe_lc (own := [("price", 3)]) (g := gName 3) rfl sc__is_prices.nd (pi_list (pv 2)) (blkOk_by (own := [("price", 3)]) (N := ["thing", "posts", "told", "price"]) (sc := defScope s__is_prices) (by decide +kernel)) (fun _ _ _ _ _ => (pg_name (i := 3) sc__is_prices.nd rfl (Or.inl rfl))) (fun _ _ _ _ _ => pts_nil) (fun _ _ _ _ _ => (pe_call G__is_price hr__is_price rfl m__is_price k__is_price b__is_price .nil pass0 (pa_cons (pv 3) pa_nil)))) pa_nil)))))))), ?_⟩
    walk_at "rr"
    refine ⟨_, "tuple", _, rfl, ty_tup ha, ?_⟩
    rw [tup_isTup ha (by rw [List.length_map]; exact hl)]
    walk_at "rk"
    refine ⟨⟨_, SqT.of ha⟩, ?_⟩
    intro D nD
    refine lc_tup (K := K) (a := a) (xs := row.map vO) (fun i H2 => H2 D = some (.lst (((row.take i).filterMap id).map V.int)) ∧ Same H H2) ⟨upd_same, same_new nD⟩ (fun i H2 _ h2 => SqT.of (h2.2 _ _ ha)) ?_ ?_
    · rintro i x H2 hi ⟨e1, e2⟩
      obtain ⟨o, ho, rfl⟩ := map_at hi
      have hil := (List.getElem?_eq_some_iff.mp ho).1
      refine ⟨rfl, ?_⟩
      cases o with
      | none =>
        refine ⟨_, rfl, rfl, _, rfl, ite2 (fun g => absurd g (by decide)) (fun _ => ⟨?_, e2⟩)⟩
        rw [e1, List.take_add_one, ho, List.filterMap_append]
        simp
      | some y =>
        refine ⟨_, rfl, rfl, _, rfl, ite2 (fun _ => ?_) (fun g => absurd rfl g)⟩
        refine ⟨_, rfl, _, e1, ?_, ?_, same_upd e2 nD⟩
        · rw [List.length_map]
          exact small1000 (Nat.le_trans (List.length_filterMap_le _ _) (by rw [List.length_take]; omega))
        · rw [upd_same, List.take_add_one, ho, List.filterMap_append, List.map_append]
          rfl
    · rintro H2 ⟨e1, e2⟩
      rw [List.length_map, List.take_length] at e1
      obtain ⟨ns, hns⟩ : ∃ ns, row.filterMap id = ns := ⟨_, rfl⟩
      rw [hns] at e1
      have hpos : 0 < ns.length := by
        obtain ⟨x, hx⟩ := S.some
        have : x ∈ ns := by rw [← hns]; exact List.mem_filterMap.mpr ⟨some x, hx, rfl⟩
        exact List.length_pos_of_mem this
      have hlen : ns.length ≤ 6 := by
        rw [← hns]
        exact Nat.le_trans (List.length_filterMap_le _ _) (by omega)
      have hin : ∀ y ∈ ns, 0 ≤ y ∧ y ≤ top := fun y hy => by
        rw [← hns] at hy
        obtain ⟨o, ho, e⟩ := List.mem_filterMap.mp hy
        have e : o = some y := e
        subst e
        exact S.rng y ho
      walk_at "rk"
      rw [List.length_map]
      walk_at "rk"
      refine ⟨⟨_, SqL.of e1⟩, ?_⟩
      intro L nL
      refine lc_list (K := K) (a := D) (xs := ns.map V.int) (fun j H4 => H4 L = some (.lst ((List.replicate j true).map V.bl)) ∧ Same H2 H4) ⟨upd_same, same_new nL⟩ (fun j H4 _ h4 => SqL.of (h4.2 _ _ e1)) ?_ ?_
      · rintro j z H4 hj ⟨q1, q2⟩
        obtain ⟨y, hy, rfl⟩ := map_at hj
        have hjl := (List.getElem?_eq_some_iff.mp hy).1
        have hym := hin y (List.mem_of_getElem? hy)
        refine ⟨rfl, ?_⟩
        refine yesT ?_
        walk_at "rr"
        rw [below_int hym.1 (by omega)]
        refine ⟨_, q1, ?_, ?_, same_upd q2 nL⟩
        · rw [List.length_map, List.length_replicate]; exact small1000 (by omega)
        · rw [upd_same, rep_snoc]
      · rintro H4 ⟨q1, q2⟩
        walk_at "rr"
        rw [rep_all]
        exact k H4 (e2.trans q2)
end
end Toy

namespace Toy
open PySem PySem.Spec PyProof.Rows L2
local macro_rules | `(tactic| walk_at "hp") => `(tactic| first
  | assumption
  | exact upd_same
  | (refine Eq.trans (upd_ne (by first | assumption | (apply Ne.symm; assumption))) ?_; walk_at "hp"))
local macro_rules | `(tactic| walk_at "side") => `(tactic| first
  | exact .inl ⟨by omega, by omega⟩
  | exact .inr ⟨by omega, by omega⟩
  | exact ⟨by omega, by omega⟩
  | (show _ ≤ _; omega)
  | (show (_ : Int) < _; omega)
  | decide
  | assumption)
local macro_rules | `(tactic| walk_at "r") => `(tactic| first
  | refine ⟨_, rfl, ?_⟩
  | refine ⟨_, _, rfl, rfl, ?_⟩
  | refine ⟨_, _, _, _, rfl, rfl, SqL.of (by walk_at "hp"), rfl, ?_⟩
  | refine ⟨_, _, _, _, rfl, rfl, SqT.of (by walk_at "hp"), rfl, ?_⟩
  | refine ⟨_, _, _, _, rfl, rfl, (by walk_at "hp"), rfl, ?_⟩
  | refine And.intro rfl ?_
  | refine ⟨_, _, rfl, SqT.of (by walk_at "hp"), ?_⟩
  | refine ⟨_, _, rfl, SqL.of (by walk_at "hp"), ?_⟩
  | refine .inl ⟨_, rfl, ?_⟩
  | refine ⟨_, _, rfl, .inl (SqL.of (by walk_at "hp")), ?_⟩
  | refine ⟨_, _, rfl, .inr (SqT.of (by walk_at "hp")), ?_⟩
  | refine ⟨_, _, rfl, .inl ⟨SqL.of (by walk_at "hp"), ?_⟩⟩
  | refine And.intro (.inl ⟨rfl, _, SqL.of (by walk_at "hp")⟩) ?_
  | refine ⟨_, _, _, rfl, rfl, (by walk_at "hp"), ?_⟩
  | refine ⟨_, _, rfl, (by walk_at "hp"), ?_⟩
  | refine And.intro (by walk_at "side") ?_)
local macro_rules | `(tactic| walk_at "rr") => `(tactic| (repeat walk_at "r"))
local macro_rules | `(tactic| walk_at "k") => `(tactic| first
  | refine ite2 (fun _ => ?_) (fun g => absurd rfl g)
  | refine ite2 (fun g => absurd g (by decide)) (fun _ => ?_)
  | refine ite2 (fun _ => ?_) (fun g => absurd (decide_eq_true (by omega)) g)
  | refine ite2 (fun g => absurd (of_decide_eq_true g) (by omega)) (fun _ => ?_)
  | refine ite2 (fun g => (nd_t g (by omega)).elim) (fun _ => ?_)
  | refine ite2 (fun _ => ?_) (fun g => absurd (nd_f g) (by omega)))
local macro_rules | `(tactic| walk_at "rk") => `(tactic| (repeat (first | walk_at "r" | walk_at "k")))
section
variable {P : Program} {w : World} {K : PySem.W.Frag} {mg : Str → Option Value} {base : Heap}
theorem ok__is_requests (T : Top K mg) : Ok P w K mg base 6 "_is_requests" ["thing", "posts"] spIsRequests := by
  refine ok_of T.d__is_requests sc__is_requests (fun vs H Q E h => ?_) (fun f cdv A outer s H vs Q E hr h => ?_)
  · obtain ⟨d, kvs, rs, n, top, rfl, _⟩ := h
    rfl
  · obtain ⟨d, kvs, rs, n, top, rfl, hd, hR, nd, h1, h5, hP, h6, h9, k⟩ := h
    obtain ⟨t_MOST_REQUESTS, g_MOST_REQUESTS⟩ := T.g_MOST_REQUESTS
    obtain ⟨f__is_prices, fd__is_prices, m__is_prices, k__is_prices, b__is_prices, G__is_prices⟩ := ok__is_prices (P := P) (w := w) (base := base) T
    have hr__is_prices : Room 5 _ := hr.mono (by decide)
    obtain ⟨f_is_name, fd_is_name, m_is_name, k_is_name, b_is_name, G_is_name⟩ := ok_is_name (P := P) (w := w) (base := base) T
    have hr_is_name : Room 1 _ := hr.mono (by decide)
    have hu := hu_of hr
    have hl : kvs.length = rs.length := dct_len hR
    refine ⟨_, (pss_cons (ps_if (PW.pt (pw_or (pt_not (pt_val (pe_callB (id := "isinstance") (call_isN (T := "dict")) (by rfl) T.b_isinstance (by decide +kernel) (pa_cons (pv 0) (pa_cons (pe_bltn (v := .ty "dict") (u := .type "dict") (by rfl) T.b_dict (by decide +kernel) rfl) pa_nil))))) (pw_or1 (pt_not (pt_chain op_le op_le pe_int (pe_callB (id := "len") call_lenD (by rfl) T.b_len (by decide +kernel) (pa_cons (pv 0) pa_nil)) (pe_glob (v := .int 5) rfl g_MOST_REQUESTS ⟨_, rfl⟩))))))
      (pss_one (ps_ret pe_bl))
      pss_nil)
      (pss_one (ps_ret (pe_callB (id := "all") (cr_all rfl) (by rfl) T.b_all (by decide +kernel) (pa_cons (pe_lock (pe_lc (own := [("name", 2)]) (g := gName 2) rfl sc__is_requests.nd (pi_keys (pv 0)) (blkOk_by (own := [("name", 2)]) (N := ["thing", "posts", "name"]) (sc := defScope s__is_requests) (by decide +kernel)) (fun _ _ _ _ _ => (pg_name (i := 2) sc__is_requests.nd rfl (Or.inl rfl))) (fun _ _ _ _ _ => pts_nil) (fun _ _ _ _ _ => (pe_and (pe_call G_is_name hr_is_name rfl m_is_name k_is_name b_is_name .nil pass0 (pa_cons (pv 2) pa_nil)) (pe_one (pe_call G__is_prices hr__is_prices rfl m__is_prices k__is_prices b__is_prices .nil pass0 (pa_cons (pe_dget hu (pv 0) (pv 2) (fun _ _ => rfl)) (pa_cons (pv 1) pa_nil)))))))) pa_nil))))), ?_⟩
    refine ⟨_, rfl, _, "dict", _, rfl, ty_dK hd, kit7 (ty_dK hd) (by simp), _, rfl, ?_⟩
    walk_at "rk"
    refine ⟨d, _, hd, True.intro, fun od => ?_⟩
    refine ⟨_, rfl, d, od, rfl, .inl ⟨kvs, upd_same, fun D nD => ?_⟩⟩
    have nDd : D ≠ d := fun q => by subst q; rw [upd_same] at nD; cases nD
    have nDH : H D = none := by rw [upd_ne nDd] at nD; exact nD
    refine lc_it walk_keys (fun i H2 => H2 D = some (.lst ((List.replicate i true).map V.bl)) ∧ Same (upd H d (.frz od (.dK kvs))) H2) ⟨upd_same, same_new nD⟩ (fun i H2 _ h2 => h2.2 _ _ upd_same) ?_ ?_
    · rintro i x H2 H3 hi ⟨q1, q2⟩ ⟨rfl, ky, v, hkv, rfl⟩
      obtain ⟨⟨z, row⟩, hrow, ek, _⟩ := prd_at1 hR hkv
      have ek : ky = .inr z := ek
      subst ek
      have hm := List.mem_of_getElem? hrow
      have hPz := hP _ hm
      obtain ⟨v', hv', hO⟩ := dct_some hR nd hm
      have hO3 : OptT H3 v' row := OptT.firm H H3 _ _ (fun a xs e => q2 _ _ (by rw [upd_ne (ne_of e hd (by intro z; cases z))]; exact e)) hO
      refine ⟨rfl, ?_⟩
      refine yesT ?_
      refine ⟨_, rfl, .str z, "str", rfl, rfl, (fun y e => by cases e; have h8 : (z.length : Int) ≤ 8 := hPz.2.hi; exact Nat.le_of_lt (small1000 (by omega))), fun H4 s4 => ?_⟩
      rw [nm_of hPz.2]
      refine ⟨true, rfl, ?_⟩
      walk_at "k"
      refine ⟨_, rfl, _, rfl, d, v', rfl, .inl ⟨kvs, .inr z, .inr ⟨od, s4 _ _ (q2 _ _ upd_same)⟩, rfl, hv'.symm⟩, ?_⟩
      walk_at "rr"
      refine ⟨v', row, n, top, rfl, OptT.firm H3 H4 _ _ (same_tups s4) hO3, hPz.1, h6, h9, fun H5 s5 => ?_⟩
      refine ⟨_, s5 _ _ (s4 _ _ q1), ?_, ?_, same_upd ((q2.trans s4).trans s5) nD⟩
      · rw [List.length_map, List.length_replicate]
        have : i < kvs.length := hi
        exact small1000 (by omega)
      · rw [upd_same, rep_snoc]
    · rintro H2 ⟨q1, q2⟩
      have hd2 := q2 _ _ upd_same
      refine ⟨hd2, D, List.replicate kvs.length true, rfl, SqL.of ((upd_ne nDd).trans q1), ?_⟩
      rw [rep_all]
      refine k _ fun b o e => ?_
      by_cases eb : b = d
      · subst eb; rw [upd_same, ← e, hd]
      · rw [upd_ne eb]
        exact q2 b o (by rw [upd_ne eb]; exact e)
end
end Toy

namespace Toy
open PySem PySem.Spec PyProof.Rows L2
local macro_rules | `(tactic| walk_at "hp") => `(tactic| first
  | assumption
  | exact upd_same
  | (refine Eq.trans (upd_ne (by first | assumption | (apply Ne.symm; assumption))) ?_; walk_at "hp"))
local macro_rules | `(tactic| walk_at "side") => `(tactic| first
  | exact .inl ⟨by omega, by omega⟩
  | exact .inr ⟨by omega, by omega⟩
  | exact ⟨by omega, by omega⟩
  | (show _ ≤ _; omega)
  | (show (_ : Int) < _; omega)
  | decide
  | assumption)
local macro_rules | `(tactic| walk_at "r") => `(tactic| first
  | refine ⟨_, rfl, ?_⟩
  | refine ⟨_, _, rfl, rfl, ?_⟩
  | refine ⟨_, _, _, _, rfl, rfl, SqL.of (by walk_at "hp"), rfl, ?_⟩
  | refine ⟨_, _, _, _, rfl, rfl, SqT.of (by walk_at "hp"), rfl, ?_⟩
  | refine ⟨_, _, _, _, rfl, rfl, (by walk_at "hp"), rfl, ?_⟩
  | refine And.intro rfl ?_
  | refine ⟨_, _, rfl, SqT.of (by walk_at "hp"), ?_⟩
  | refine ⟨_, _, rfl, SqL.of (by walk_at "hp"), ?_⟩
  | refine .inl ⟨_, rfl, ?_⟩
  | refine ⟨_, _, rfl, .inl (SqL.of (by walk_at "hp")), ?_⟩
  | refine ⟨_, _, rfl, .inr (SqT.of (by walk_at "hp")), ?_⟩
  | refine ⟨_, _, rfl, .inl ⟨SqL.of (by walk_at "hp"), ?_⟩⟩
  | refine And.intro (.inl ⟨rfl, _, SqL.of (by walk_at "hp")⟩) ?_
  | refine ⟨_, _, _, rfl, rfl, (by walk_at "hp"), ?_⟩
  | refine ⟨_, _, rfl, (by walk_at "hp"), ?_⟩
  | refine And.intro (by walk_at "side") ?_)
local macro_rules | `(tactic| walk_at "rr") => `(tactic| (repeat walk_at "r"))
local macro_rules | `(tactic| walk_at "k") => `(tactic| first
  | refine ite2 (fun _ => ?_) (fun g => absurd rfl g)
  | refine ite2 (fun g => absurd g (by decide)) (fun _ => ?_)
  | refine ite2 (fun _ => ?_) (fun g => absurd (decide_eq_true (by omega)) g)
  | refine ite2 (fun g => absurd (of_decide_eq_true g) (by omega)) (fun _ => ?_)
  | refine ite2 (fun g => (nd_t g (by omega)).elim) (fun _ => ?_)
  | refine ite2 (fun _ => ?_) (fun g => absurd (nd_f g) (by omega)))
local macro_rules | `(tactic| walk_at "rk") => `(tactic| (repeat (first | walk_at "r" | walk_at "k")))
section
variable {P : Program} {w : World} {K : PySem.W.Frag} {mg : Str → Option Value} {base : Heap}
theorem ok_least_ways (T : Top K mg) : Ok P w K mg base 1 "least_ways" ["moves"] spLeastWays := by
  refine ok_of T.d_least_ways sc_least_ways (fun vs H Q E h => ?_) (fun f cdv A outer s H vs Q E hr h => ?_)
  · obtain ⟨v, rows, n, top, rfl, _⟩ := h
    rfl
  · obtain ⟨v, rows, n, top, rfl, ⟨a, vs, rfl, ha, hp⟩, S, h1, h6, k⟩ := h
    have hl : (vs.length : Int) = n := by rw [prd_len hp]; exact S.len
    refine ⟨_, (pss_cons (ps_setLc (i := 1) (own := [("prices", 6)]) (g := gName 6) rfl sc_least_ways.nd rfl rfl (sw_true rfl rfl rfl (by decide +kernel)) (pi_tup (pv 0)) (blkOk_by (own := [("prices", 6)]) (N := ["moves", "ways", "posts", "middle", "start", "end", "prices", "row"]) (sc := defScope s_least_ways) (by decide +kernel)) (fun _ _ _ _ _ => (pg_name (i := 6) sc_least_ways.nd rfl (Or.inl rfl))) (fun _ _ _ _ _ => pts_nil) (fun _ _ _ _ _ => (pe_callTy (T := "list") (call_list_of : CallR _ _ (rListOf K)) (by rfl) T.b_list (by decide +kernel) (pa_cons (pv 6) pa_nil))))
      (pss_cons (ps_set (i := 2) sc_least_ways.nd rfl (Or.inl rfl) (pe_callTy (T := "range") cr_rng1 (by rfl) T.b_range (by decide +kernel) (pa_cons (pe_callB (id := "len") call_len_seq (by rfl) T.b_len (by decide +kernel) (pa_cons (pv 0) pa_nil)) pa_nil)))
      (pss_cons (ps_for PassesOwn.never rfl (pi_rngV (pv 2)) (pg_name (i := 3) sc_least_ways.nd rfl (Or.inl rfl))
      (pss_one (ps_for PassesOwn.never rfl (pi_rngV (pv 2)) (pg_name (i := 4) sc_least_ways.nd rfl (Or.inl rfl))
      (pss_one (ps_for PassesOwn.never rfl (pi_rngV (pv 2)) (pg_name (i := 5) sc_least_ways.nd rfl (Or.inl rfl))
      (pss_one (ps_asg (pe_callB (id := "min") (call_min2 rfl) (by rfl) T.b_min (by decide +kernel) (pa_cons (pe_ix ix_list (pe_ix ix_list (pv 1) (pv 4) (fun _ _ => rfl)) (pv 5) (fun _ _ => rfl)) (pa_cons (pe_op op_add (pe_ix ix_list (pe_ix ix_list (pv 1) (pv 4) (fun _ _ => rfl)) (pv 3) (fun _ _ => rfl)) (pe_ix ix_list (pe_ix ix_list (pv 1) (pv 3) (fun _ _ => rfl)) (pv 5) (fun _ _ => rfl))) pa_nil))) (pg_sub (pe_ix ix_list (pv 1) (pv 4) (fun _ _ => rfl)) (pv 5) set_list))))))))
      (pss_one (ps_ret (pe_callTy (T := "tuple") call_tuple_of (by rfl) T.b_tuple (by decide +kernel) (pa_cons (pe_lc (own := [("row", 7)]) (g := gName 7) rfl sc_least_ways.nd (pi_list (pv 1)) (blkOk_by (own := [("row", 7)]) (N := ["moves", "ways", "posts", "middle", "start", "end", "prices", "row"]) (sc := defScope s_least_ways) (by decide +kernel)) (fun _ _ _ _ _ => (pg_name (i := 7) sc_least_ways.nd rfl (Or.inl rfl))) (fun _ _ _ _ _ => pts_nil) (fun _ _ _ _ _ => (pe_callTy (T := "tuple") (call_tuple_of : CallR _ _ (rTupOf K)) (by rfl) T.b_tuple (by decide +kernel) (pa_cons (pv 7) pa_nil)))) pa_nil))))))), ?_⟩
    walk_at "rr"
    refine ⟨⟨_, SqT.of ha⟩, ?_⟩
    intro L nL
    have nLa : a ≠ L := ne_of_none ha nL
    refine lc_tup (K := K) (a := a) (xs := vs) (fun i H2 => ∃ as : List Addr, H2 L = some (.lst (as.map V.ref)) ∧ as.length = i ∧ as.Nodup ∧ L ∉ as ∧ (∀ b ∈ as, H b = none) ∧ (∀ (j : Nat) b, as[j]? = some b → H2 b = some (.lst (rowV n.toNat (mat rows j)))) ∧ Same H H2)
      ⟨[], upd_same, rfl, .nil, by simp, by simp, by simp, same_new nL⟩ (fun i H2 _ ⟨_, _, _, _, _, _, _, q⟩ => SqT.of (q _ _ ha)) ?_ ?_
    · rintro i x H2 hi ⟨as, e1, e2, e3, e4, e5, e6, e7⟩
      obtain ⟨row, hrow, b, rfl, hb⟩ := prd_at1 hp hi
      have hb2 := e7 _ _ hb
      refine ⟨rfl, ?_⟩
      refine yesT ?_
      refine ⟨_, rfl, b, _, rfl, .inr (SqT.of hb2), fun t nt => ?_⟩
      have ntL : L ≠ t := ne_of_none e1 nt
      have ntH := e7.free nt
      have ntas : t ∉ as := fun m => by
        obtain ⟨j, hj⟩ := List.mem_iff_getElem?.mp m
        rw [e6 j t hj] at nt; cases nt
      refine ⟨_, (upd_ne ntL).trans e1, ?_, as ++ [t], ?_, ?_, ?_, ?_, ?_, ?_, ?_⟩
      · rw [List.length_map]; have := (List.getElem?_eq_some_iff.mp hi).1; exact small1000 (by omega)
      · rw [upd_same, List.map_append]; rfl
      · rw [List.length_append, e2]; rfl
      · exact nd_snoc e3 ntas
      · intro m
        rcases List.mem_append.mp m with q | q
        · exact e4 q
        · exact ntL (List.mem_singleton.mp q)
      · intro c hc
        rcases List.mem_append.mp hc with q | q
        · exact e5 c q
        · rw [List.mem_singleton.mp q]; exact ntH
      · intro j c hc
        by_cases hj : j < as.length
        · rw [List.getElem?_append_left hj] at hc
          have hcm := List.mem_of_getElem? hc
          have hcL : c ≠ L := fun q => e4 (q ▸ hcm)
          have hct : c ≠ t := fun q => ntas (q ▸ hcm)
          rw [upd_ne hcL, upd_ne hct]
          exact e6 j c hc
        · have hj2 : j = as.length := by
            have := (List.getElem?_eq_some_iff.mp hc).1
            rw [List.length_append] at this
            simp at this
            omega
          subst hj2
          rw [List.getElem?_append_right (Nat.le_refl _), Nat.sub_self] at hc
          obtain rfl := Option.some.inj (show some t = some c from hc)
          rw [upd_ne ntL.symm, upd_same]
          have hrm := S.row row (List.mem_of_getElem? hrow)
          rw [rowV_of (n := n.toNat) (by omega), e2]
          congr 2
          unfold rowV
          apply List.map_congr_left
          intro q _
          rw [mat_at hrow]
      · exact same_upd (same_upd e7 ntH) nL
    · rintro H2 ⟨as, e1, e2, e3, e4, e5, e6, e7⟩
      have ha2 := e7 _ _ ha
      walk_at "rr"
      intro r nr
      have hrH := e7.free nr
      have hrL : r ≠ L := fun q => by subst q; rw [e1] at nr; cases nr
      have en : ((vs.length : Int) - 0).toNat = n.toNat := by omega
      have M0 : MatAt (upd H2 r (.rng 0 vs.length)) L as n.toNat (mat rows) := by
        refine ⟨(upd_ne hrL.symm).trans e1, by omega, e3, e4, fun i b hb => ?_⟩
        have hbm := List.mem_of_getElem? hb
        have hbr : b ≠ r := fun q => by subst q; rw [e6 i b hb] at nr; cases nr
        rw [upd_ne hbr]
        exact e6 i b hb
      have T0 : Tri n.toNat (mat rows) 0 := ⟨S.z, S.nn, fun i j k' _ _ hk => absurd hk (Nat.not_lt_zero _)⟩
      refine ⟨_, rfl, r, 0, _, rfl, upd_same, by omega, by omega, by omega, by omega, ?_⟩
      refine for_range (lo := 0) (n := ((vs.length : Int) - 0).toNat) (fun m σ' H3 => ∃ (M : Nat → Nat → Int) (o3 o4 o5 : Option V), σ' = [some (.ref a), some (.ref L), some (.ref r), o3, o4, o5, none, none] ∧ H3 r = some (.rng 0 vs.length) ∧ MatAt H3 L as n.toNat M ∧
          Tri n.toNat M m ∧ Snd n.toNat (mat rows) M ∧ (∀ i j, i < n.toNat → j < n.toNat → M i j ≤ mat rows i j) ∧ Same H H3)
        ⟨_, none, none, none, rfl, upd_same, M0, T0, Snd.self, fun i j _ _ => Int.le_refl _, same_upd e7 hrH⟩ ?_ ?_
      · rintro m σ' H3 hm ⟨M, o3, o4, o5, rfl, hr3, hM, hT, hS, hle, s3⟩
        have hm' : m < n.toNat := by omega
        refine ⟨_, rfl, r, 0, _, rfl, hr3, by omega, by omega, by omega, by omega, ?_⟩
        refine for_range (lo := 0) (n := ((vs.length : Int) - 0).toNat) (fun st σ' H4 => ∃ (o4 o5 : Option V), σ' = [some (.ref a), some (.ref L), some (.ref r), some (.int (m : Nat)), o4, o5, none, none] ∧ H4 r = some (.rng 0 vs.length) ∧
            MatAt H4 L as n.toNat (fun i j => if i < st then ph M m i j else M i j) ∧ Same H H4)
          ⟨o4, o5, by simp, hr3, hM.ext fun i j _ _ => by simp, s3⟩ ?_ ?_
        · rintro st σ' H4 hst ⟨o4, o5, rfl, hr4, hM4, s4⟩
          have hst' : st < n.toNat := by omega
          refine ⟨_, rfl, r, 0, _, rfl, hr4, by omega, by omega, by omega, by omega, ?_⟩
          refine for_range (lo := 0) (n := ((vs.length : Int) - 0).toNat) (fun e σ' H5 => ∃ (o5 : Option V), σ' = [some (.ref a), some (.ref L), some (.ref r), some (.int (m : Nat)), some (.int (st : Nat)), o5, none, none] ∧ H5 r = some (.rng 0 vs.length) ∧
              MatAt H5 L as n.toNat (fun i j => if i < st ∨ (i = st ∧ j < e) then ph M m i j else M i j) ∧ Same H H5)
            ⟨o5, by simp, hr4, hM4.ext fun i j _ _ => by simp, s4⟩ ?_ ?_
          · rintro e σ' H5 he ⟨o5, rfl, hr5, hM5, s5⟩
            have he' : e < n.toNat := by omega
            obtain ⟨as1, has1⟩ : ∃ b, as[st]? = some b := ⟨_, List.getElem?_eq_getElem (by rw [hM5.len]; omega)⟩
            obtain ⟨am1, ham1⟩ : ∃ b, as[m]? = some b := ⟨_, List.getElem?_eq_getElem (by rw [hM5.len]; omega)⟩
            have r1 := hM5.row st as1 has1
            have r2 := hM5.row m am1 ham1
            have hL5 := hM5.ws
            have p1 : ph M m st m = M st m := by
              have h0 := hT.z m hm'
              unfold ph; rw [h0]; split <;> omega
            have p2 : ph M m m e = M m e := by
              have h0 := hT.z m hm'
              unfold ph; rw [h0]; split <;> omega
            have nas : as1 ≠ r := fun q => by subst q; rw [r1] at hr5; cases hr5
            rw [Int.zero_add]
            refine ⟨_, rfl, _, rfl, L, _, (st : Nat), _, rfl, rfl, SqL.of hL5, atI_nat (by rw [List.getElem?_map, has1]; rfl), _, rfl, as1, _, (e : Nat), _, rfl, rfl, SqL.of r1, atI_nat (rowV_at he'), ?_⟩
            refine ⟨_, rfl, _, rfl, L, _, (st : Nat), _, rfl, rfl, SqL.of hL5, atI_nat (by rw [List.getElem?_map, has1]; rfl), _, rfl, as1, _, (m : Nat), _, rfl, rfl, SqL.of r1, atI_nat (rowV_at hm'), ?_⟩
            refine ⟨_, rfl, _, rfl, L, _, (m : Nat), _, rfl, rfl, SqL.of hL5, atI_nat (by rw [List.getElem?_map, ham1]; rfl), _, rfl, am1, _, (e : Nat), _, rfl, rfl, SqL.of r2, atI_nat (rowV_at he'), ?_⟩
            refine ⟨_, _, rfl, rfl, _, _, rfl, ?_⟩
            refine ⟨_, rfl, _, rfl, L, _, (st : Nat), _, rfl, rfl, SqL.of hL5, atI_nat (by rw [List.getElem?_map, has1]; rfl), _, rfl, as1, _, (e : Nat), e, rfl, rfl, r1, ?_, ?_⟩
            · unfold ixN
              rw [rowV_len, if_pos (by omega), if_pos (by omega)]
              rfl
            rw [rowV_set]
            refine ⟨_, rfl, (upd_ne nas.symm).trans hr5, (hM5.set has1).ext fun i j hi hj => ?_, same_upd s5 (e5 as1 (List.mem_of_getElem? has1))⟩
            have c1 : (if st < st ∨ st = st ∧ e < e then ph M m st e else M st e) = M st e := by simp
            have c2 : (if st < st ∨ st = st ∧ m < e then ph M m st m else M st m) = M st m := by rw [p1]; simp
            have c3 : (if m < st ∨ m = st ∧ e < e then ph M m m e else M m e) = M m e := by rw [p2]; simp
            rw [c1, c2, c3]
            by_cases hij : i = st ∧ j = e
            · obtain ⟨rfl, rfl⟩ := hij
              rw [if_pos ⟨rfl, rfl⟩, if_pos (c := i < i ∨ i = i ∧ j < j + 1) (.inr ⟨rfl, Nat.lt_succ_self _⟩)]
              rfl
            · rw [if_neg hij]
              by_cases hq : i < st ∨ (i = st ∧ j < e)
              · rw [if_pos hq, if_pos (by omega)]
              · rw [if_neg hq, if_neg (by omega)]
          · rintro σ' H5 ⟨o5, rfl, hr5, hM5, s5⟩
            refine ⟨_, _, rfl, hr5, hM5.ext fun i j hi hj => ?_, s5⟩
            by_cases hq : i < st ∨ (i = st ∧ j < ((vs.length : Int) - 0).toNat)
            · rw [if_pos hq, if_pos (by omega)]
            · rw [if_neg hq, if_neg (by omega)]
        · rintro σ' H4 ⟨o4, o5, rfl, hr4, hM4, s4⟩
          refine ⟨ph M m, _, _, _, rfl, hr4, hM4.ext fun i j hi hj => by rw [if_pos (by omega)], hT.ph hm', hS.ph hm', fun i j hi hj => ?_, s4⟩
          exact Int.le_trans (@ph_le M m i j).1 (hle i j hi hj)
      · rintro σ' H3 ⟨M, o3, o4, o5, rfl, hr3, hM, hT, hS, hle, s3⟩
        rw [en] at hT
        have hLst := Least.of hT hS hle
        have hL5 := hM.ws
        refine ⟨_, rfl, L, rfl, ⟨_, SqL.of hL5⟩, fun D nD => ?_⟩
        have hDL : L ≠ D := ne_of_none hL5 nD
        refine lc_list (K := K) (a := L) (xs := as.map V.ref) (fun i H4 => ∃ ts : List V, H4 D = some (.lst ts) ∧ Paired (IntT H4) ts ((List.range i).map fun q => (List.range n.toNat).map (M q)) ∧ MatAt H4 L as n.toNat M ∧ Same H3 H4)
          ⟨[], upd_same, .nil, ?_, same_new nD⟩ (fun i H4 _ ⟨_, _, _, q, _⟩ => SqL.of q.ws) ?_ ?_
        · exact ⟨(upd_ne hDL).trans hL5, hM.len, hM.nd, hM.nw, fun i b hb => (upd_ne (ne_of_none (hM.row i b hb) nD)).trans (hM.row i b hb)⟩
        · rintro i x H4 hi ⟨ts, q1, q2, q3, q4⟩
          obtain ⟨b, hb, rfl⟩ := map_at hi
          have hrow := q3.row i b hb
          have hil := (List.getElem?_eq_some_iff.mp hb).1
          refine ⟨rfl, ?_⟩
          refine yesT ?_
          refine ⟨_, rfl, b, _, rfl, .inl ⟨SqL.of hrow, fun t nt => ?_⟩⟩
          have ntD : t ≠ D := fun q => by subst q; rw [q1] at nt; cases nt
          have hF : ∀ c xs, H4 c = some (.tup xs) → (upd (upd H4 t (.tup (rowV n.toNat (M i)))) D (.lst (ts ++ [V.ref t]))) c = some (.tup xs) := fun c xs e => by
            rw [upd_ne (ne_of e q1 (by intro z; cases z)), upd_ne (ne_of_none e nt)]; exact e
          refine ⟨_, (upd_ne ntD.symm).trans q1, ?_, ts ++ [.ref t], upd_same, ?_, ?_, ?_⟩
          · rw [prd_len q2, List.length_map, List.length_range]
            have := hM.len
            exact small1000 (by omega)
          · rw [List.range_succ, List.map_append]
            refine Paired.snoc (prd_imp q2 fun x y r => IntT.firm H4 _ x y hF r) ⟨t, rfl, ?_⟩
            rw [upd_ne ntD, upd_same, rowV_ints]
          · have hLt : L ≠ t := ne_of_none q3.ws nt
            refine ⟨(upd_ne hDL).trans ((upd_ne hLt).trans q3.ws), q3.len, q3.nd, q3.nw, fun j c hc => ?_⟩
            have hcr := q3.row j c hc
            have hcD : c ≠ D := ne_of_none (hM.row j c hc) nD
            exact (upd_ne hcD).trans ((upd_ne (ne_of_none hcr nt)).trans hcr)
          · exact same_upd (same_upd q4 (q4.free nt)) nD
        · rintro H4 ⟨ts, q1, q2, q3, q4⟩
          refine ⟨D, _, rfl, .inl ⟨SqL.of q1, fun t nt => ?_⟩⟩
          rw [List.length_map, hM.len] at q2
          refine k _ ((List.range n.toNat).map fun q => (List.range n.toNat).map (M q)) _ ((s3.trans q4).trans (same_new nt)) ⟨t, ts, rfl, upd_same, prd_imp q2 fun x y r => IntT.firm H4 _ x y (same_tups (same_new nt)) r⟩ ⟨?_, ?_, ?_⟩
          · rw [List.length_map, List.length_range]; omega
          · intro r hr
            obtain ⟨q, _, rfl⟩ := List.mem_map.mp hr
            rw [List.length_map, List.length_range]; omega
          · have em : ∀ i j, i < n.toNat → j < n.toNat → mat ((List.range n.toNat).map fun q => (List.range n.toNat).map (M q)) i j = M i j := fun i j hi hj => by
              rw [mat_at (r := (List.range n.toNat).map (M i)) (by rw [List.getElem?_map, List.getElem?_range hi]; rfl)]
              rw [List.getD_eq_getElem?_getD, List.getElem?_map, List.getElem?_range hj]
              rfl
            refine ⟨fun i j hi hj => ?_, fun i j l hi hj w => ?_⟩
            · rw [em i j hi hj]; exact hLst.has i j hi hj
            · rw [em i j hi hj]; exact hLst.le i j l hi hj w
end
end Toy

namespace Toy
open PySem PySem.Spec PyProof.Rows L2
local macro_rules | `(tactic| walk_at "hp") => `(tactic| first
  | assumption
  | exact upd_same
  | (refine Eq.trans (upd_ne (by first | assumption | (apply Ne.symm; assumption))) ?_; walk_at "hp"))
local macro_rules | `(tactic| walk_at "side") => `(tactic| first
  | exact .inl ⟨by omega, by omega⟩
  | exact .inr ⟨by omega, by omega⟩
  | exact ⟨by omega, by omega⟩
  | (show _ ≤ _; omega)
  | (show (_ : Int) < _; omega)
  | decide
  | assumption)
local macro_rules | `(tactic| walk_at "r") => `(tactic| first
  | refine ⟨_, rfl, ?_⟩
  | refine ⟨_, _, rfl, rfl, ?_⟩
  | refine ⟨_, _, _, _, rfl, rfl, SqL.of (by walk_at "hp"), rfl, ?_⟩
  | refine ⟨_, _, _, _, rfl, rfl, SqT.of (by walk_at "hp"), rfl, ?_⟩
  | refine ⟨_, _, _, _, rfl, rfl, (by walk_at "hp"), rfl, ?_⟩
  | refine And.intro rfl ?_
  | refine ⟨_, _, rfl, SqT.of (by walk_at "hp"), ?_⟩
  | refine ⟨_, _, rfl, SqL.of (by walk_at "hp"), ?_⟩
  | refine .inl ⟨_, rfl, ?_⟩
  | refine ⟨_, _, rfl, .inl (SqL.of (by walk_at "hp")), ?_⟩
  | refine ⟨_, _, rfl, .inr (SqT.of (by walk_at "hp")), ?_⟩
  | refine ⟨_, _, rfl, .inl ⟨SqL.of (by walk_at "hp"), ?_⟩⟩
  | refine And.intro (.inl ⟨rfl, _, SqL.of (by walk_at "hp")⟩) ?_
  | refine ⟨_, _, _, rfl, rfl, (by walk_at "hp"), ?_⟩
  | refine ⟨_, _, rfl, (by walk_at "hp"), ?_⟩
  | refine And.intro (by walk_at "side") ?_)
local macro_rules | `(tactic| walk_at "rr") => `(tactic| (repeat walk_at "r"))
local macro_rules | `(tactic| walk_at "k") => `(tactic| first
  | refine ite2 (fun _ => ?_) (fun g => absurd rfl g)
  | refine ite2 (fun g => absurd g (by decide)) (fun _ => ?_)
  | refine ite2 (fun _ => ?_) (fun g => absurd (decide_eq_true (by omega)) g)
  | refine ite2 (fun g => absurd (of_decide_eq_true g) (by omega)) (fun _ => ?_)
  | refine ite2 (fun g => (nd_t g (by omega)).elim) (fun _ => ?_)
  | refine ite2 (fun _ => ?_) (fun g => absurd (nd_f g) (by omega)))
local macro_rules | `(tactic| walk_at "rk") => `(tactic| (repeat (first | walk_at "r" | walk_at "k")))
/-- as SysAt, with the dict of the requests told -/
structure SysAtQ (C : Addr) (H : Hp) (p : Addr) (S : Sys) (q : Addr) : Prop where
  ex : ∃ (dx : Addr) (mv : V) (na : Addr) (wv : V) (kvs : List (Key × V)), H p = some (.ins C dx (sfs mv S.n (.ref na) wv q)) ∧ TupT IntT H mv S.rows ∧ H na = some (.tup ((S.rs.map (·.1)).map V.str)) ∧ TupT IntT H wv S.ws ∧ H q = some (.dK kvs) ∧ DctOf OptT H kvs S.rs
theorem SysAtQ.at {C : Addr} {H : Hp} {p : Addr} {S : Sys} {q : Addr} (A : SysAtQ C H p S q) : SysAt C H p S := by
  obtain ⟨dx, mv, na, wv, kvs, h⟩ := A.ex
  exact ⟨dx, mv, na, wv, q, kvs, h⟩
theorem SysAtQ.lock {C : Addr} {H : Hp} {p : Addr} {S : Sys} {q e : Addr} {ekv : List (Key × V)} {o : Obj} (A : SysAtQ C H p S q) (he : H e = some (.dK ekv)) (ne : q ≠ e) : SysAt C (upd H e (.frz o (.dK ekv))) p S := by
  obtain ⟨dx, mv, na, wv, kvs, h1, h2, h3, h4, h5, h6⟩ := A.ex
  have hF : ∀ a xs, H a = some (.tup xs) → (upd H e (.frz o (.dK ekv))) a = some (.tup xs) := fun a xs h => (upd_ne (ne_of h he (by intro z; cases z))).trans h
  exact ⟨dx, mv, na, wv, q, kvs, (upd_ne (ne_of h1 he (by intro z; cases z))).trans h1, TupT.firm IntT.firm _ _ _ _ hF h2, hF _ _ h3, TupT.firm IntT.firm _ _ _ _ hF h4, (upd_ne ne).trans h5, h6.firm OptT.firm hF⟩
theorem SysAtQ.same {C : Addr} {H H' : Hp} {p : Addr} {S : Sys} {q : Addr} (A : SysAtQ C H p S q) (k : Same H H') : SysAtQ C H' p S q := by
  obtain ⟨dx, mv, na, wv, kvs, h1, h2, h3, h4, h5, h6⟩ := A.ex
  exact ⟨dx, mv, na, wv, kvs, k _ _ h1, TupT.firm IntT.firm H H' _ _ (same_tups k) h2, k _ _ h3, TupT.firm IntT.firm H H' _ _ (same_tups k) h4, k _ _ h5, h6.firm OptT.firm (same_tups k)⟩
theorem SysAtQ.keep {C c d : Addr} {H H' : Hp} {p : Addr} {S : Sys} {q : Addr} (A : SysAtQ C H p S q) (D : Dice c H d) (k : Keep d H H') : SysAtQ C H' p S q := by
  obtain ⟨dx, mv, na, wv, kvs, h1, h2, h3, h4, h5, h6⟩ := A.ex
  have hp : p ≠ d := by
    obtain ⟨cells, i, b, s, t, e, _⟩ := D.ex
    exact ne_of h1 e (by intro z; cases z)
  exact ⟨dx, mv, na, wv, kvs, k _ _ hp h1, TupT.firm IntT.firm H H' _ _ (keep_tups k D) h2, k.tup D h3, TupT.firm IntT.firm H H' _ _ (keep_tups k D) h4, k _ _ (D.dK h5) h5, h6.firm OptT.firm (keep_tups k D)⟩
def spSystemN (C : Addr) : Sp := fun vs H Q _ => ∃ (p dx : Addr) (mv : V) (d : Addr) (rows : List (List Int)) (kvs : List (Key × V)) (rs : List (Str × List (Option Int))) (n : Int), vs = [.ref p, mv, .ref d] ∧ H p = some (.ins C dx []) ∧
  TupT IntT H mv rows ∧ Square n 9 rows ∧ 1 ≤ n ∧ n ≤ 6 ∧ H d = some (.dK kvs) ∧ DctOf OptT H kvs rs ∧ (rs.map (·.1)).Nodup ∧ 1 ≤ rs.length ∧ rs.length ≤ 5 ∧ (∀ q ∈ rs, Prices n 9 q.2 ∧ Name 8 q.1) ∧
  ∀ (S : Sys) (H' : Hp) (q : Addr), SysOk S → S.n = n → S.rows = rows → S.rs.Perm rs → SysAtQ C H' p S q → (∀ e o, H e = some o → q ≠ e) → (∀ b o, b ≠ p → H b = some o → H' b = some o) → Q .non H'
section
variable {P : Program} {w : World} {K : PySem.W.Frag} {mg : Str → Option Value} {base : Heap}
theorem ok_SystemZ_initZ (T : Top K mg) : OkI P w K mg base CX0 7 "System" T.c_System ["self", "moves", "requests"] (spSystemN T.c_System) := by
  refine okI_of T.mg_System T.i_System sc_SystemZ_initZ (fun vs H Q E h => ?_) (fun f cdv A outer s H vs Q E hr h => ?_)
  · obtain ⟨p, dx, mv, d, rows, kvs, rs, n, rfl, _⟩ := h
    rfl
  · obtain ⟨p, dx, mv, d, rows, kvs, rs, n, rfl, hp, hmv, sq, h1, h6, hd, hR, nd, r1, r5, hP, k⟩ := h
    obtain ⟨f_is_moves, fd_is_moves, m_is_moves, k_is_moves, b_is_moves, G_is_moves⟩ := ok_is_moves (P := P) (w := w) (base := base) T
    have hr_is_moves : Room 5 _ := hr.mono (by decide)
    obtain ⟨f__is_requests, fd__is_requests, m__is_requests, k__is_requests, b__is_requests, G__is_requests⟩ := ok__is_requests (P := P) (w := w) (base := base) T
    have hr__is_requests : Room 6 _ := hr.mono (by decide)
    obtain ⟨f_least_ways, fd_least_ways, m_least_ways, k_least_ways, b_least_ways, G_least_ways⟩ := ok_least_ways (P := P) (w := w) (base := base) T
    have hr_least_ways : Room 1 _ := hr.mono (by decide)
    have hu := hu_of hr
    refine ⟨_, (pss_cons (ps_if (pt_not (pt_val (pe_call G_is_moves hr_is_moves rfl m_is_moves k_is_moves b_is_moves .nil pass0 (pa_cons (pv 1) pa_nil))))
      (pss_one (ps_never))
      pss_nil)
      (pss_cons (ps_if (pt_not (pt_val (pe_call G__is_requests hr__is_requests rfl m__is_requests k__is_requests b__is_requests .nil pass0 (pa_cons (pv 2) (pa_cons (pe_callB (id := "len") call_len_seq (by rfl) T.b_len (by decide +kernel) (pa_cons (pv 1) pa_nil)) pa_nil)))))
      (pss_one (ps_never))
      pss_nil)
      (pss_cons (ps_fld (pv 0) (pv 1) rfl)
      (pss_cons (ps_fld (pv 0) (pe_callB (id := "len") call_len_seq (by rfl) T.b_len (by decide +kernel) (pa_cons (pv 1) pa_nil)) rfl)
      (pss_cons (ps_fld (pv 0) (pe_callTy (T := "tuple") call_tuple_of (by rfl) T.b_tuple (by decide +kernel) (pa_cons (pe_callB (id := "sorted") (call_sortedD rfl) (by rfl) T.b_sorted (by decide +kernel) (pa_cons (pv 2) pa_nil)) pa_nil)) rfl)
      (pss_cons (ps_fld (pv 0) (pe_call G_least_ways hr_least_ways rfl m_least_ways k_least_ways b_least_ways .nil pass0 (pa_cons (pv 1) pa_nil)) rfl)
      (pss_one (ps_fld (pv 0) (pe_dc (own := [("name", 3)]) (g := gName 3) rfl sc_SystemZ_initZ.nd (pi_tup (pe_fld (pv 0) rfl)) (blkOk_by (own := [("name", 3)]) (N := ["self", "moves", "requests", "name"]) (sc := defScope s_SystemZ_initZ) (by decide +kernel)) (fun _ _ _ _ _ => (pg_name (i := 3) sc_SystemZ_initZ.nd rfl (Or.inl rfl))) (fun _ _ _ _ _ => pts_nil) (fun _ _ _ _ _ => (pv 3)) (fun _ _ _ _ _ => (pe_dget hu (pv 2) (pv 3) (fun _ _ => rfl)))) rfl)))))))), ?_⟩
    refine ⟨_, rfl, mv, rows, n, 9, rfl, hmv, sq, h1, h6, by decide, fun H1 s1 => ⟨_, rfl, ?_⟩⟩
    walk_at "rk"
    obtain ⟨ma, mvs, rfl, hma, hmp⟩ := hmv
    have hml : (mvs.length : Int) = n := by rw [prd_len hmp]; exact sq.len
    have hma1 := s1 _ _ hma
    have hd1 := s1 _ _ hd
    walk_at "rk"
    refine ⟨d, kvs, rs, n, 9, ?_, hd1, hR.firm OptT.firm (same_tups s1), nd, r1, r5, hP, h6, by decide, fun H2 s2 => ⟨_, rfl, ?_⟩⟩
    · rw [hml]; rfl
    have hp2 := s2 _ _ (s1 _ _ hp)
    have hma2 := s2 _ _ hma1
    have hd2 := s2 _ _ hd1
    have hR2 : DctOf OptT H2 kvs rs := hR.firm OptT.firm (same_tups (s1.trans s2))
    have nma : ma ≠ p := ne_of hma hp (by intro z; cases z)
    have ndp : d ≠ p := ne_of hd hp (by intro z; cases z)
    walk_at "rk"
    -- the attributes
    refine ⟨p, T.c_System, dx, _, rfl, hp2, T.cl_System, T.na_System_moves, (by show 0 < 1000; decide), ?_⟩
    walk_at "rr"
    refine ⟨p, T.c_System, dx, _, rfl, upd_same, T.cl_System, T.na_System_posts, (by have := putF_len "moves" (.ref ma) []; exact Nat.lt_of_le_of_lt this (by decide)), ?_⟩
    rw [upd_upd]
    refine ⟨_, rfl, d, kvs, rs.map (·.1), rfl, .inl ((upd_ne ndp).trans hd2), dct_keys hR, (by rw [List.length_map]; omega), fun ys l hperm hsort nl => ?_⟩
    have npl : p ≠ l := fun q => by subst q; rw [upd_same] at nl; cases nl
    have nl2 : H2 l = none := by rw [upd_ne npl.symm] at nl; exact nl
    refine ⟨l, _, rfl, .inl ⟨SqL.of upd_same, fun t nt => ?_⟩⟩
    have ntl : t ≠ l := fun q => by subst q; rw [upd_same] at nt; cases nt
    rw [upd_ne ntl] at nt
    have npt : p ≠ t := fun q => by subst q; rw [upd_same] at nt; cases nt
    have nt2 : H2 t = none := by rw [upd_ne npt.symm] at nt; exact nt
    refine ⟨_, rfl, p, T.c_System, dx, _, rfl, (upd_ne npt).trans ((upd_ne npl).trans upd_same), T.cl_System, T.na_System_names, (by
      have q1 := putF_len "posts" (.int mvs.length) (putF "moves" (.ref ma) [])
      have q2 := putF_len "moves" (.ref ma) []
      have q3 : ([] : List (Str × V)).length = 0 := rfl
      omega), ?_⟩
    have hmv3 : ∀ {a b c d' : HO}, TupT IntT (upd (upd (upd (upd H2 p a) l b) t c) p d') (.ref ma) rows := fun {a b c d'} =>
      ⟨ma, mvs, rfl, keep4 nl2 nt2 _ _ nma hma2, prd_imp hmp fun x y r => IntT.firm H _ x y (fun e xs q => keep4 nl2 nt2 _ _ (ne_of q hp (by intro z; cases z)) (s2 _ _ (s1 _ _ q))) r⟩
    refine ⟨_, rfl, .ref ma, rows, n, 9, rfl, hmv3, sq, h1, by omega, fun wv ws H4 s4 hwv hW => ?_⟩
    have q2 := putF_len "moves" (.ref ma) []
    have q1 := putF_len "posts" (.int mvs.length) (putF "moves" (.ref ma) [])
    have q0 := putF_len "names" (.ref t) (putF "posts" (.int mvs.length) (putF "moves" (.ref ma) []))
    have q9 := putF_len "ways" wv (putF "names" (.ref t) (putF "posts" (.int mvs.length) (putF "moves" (.ref ma) [])))
    have q3 : ([] : List (Str × V)).length = 0 := rfl
    refine ⟨_, rfl, p, T.c_System, dx, _, rfl, s4 _ _ upd_same, T.cl_System, T.na_System_ways, by omega, ?_⟩
    have ht4 : H4 t = some (.tup (ys.map V.str)) := s4 _ _ ((upd_ne npt.symm).trans upd_same)
    have hd4 : H4 d = some (.dK kvs) := s4 _ _ (keep4 nl2 nt2 _ _ ndp hd2)
    have hR4 : DctOf OptT H4 kvs rs := hR2.firm OptT.firm fun e xs q => s4 _ _ (keep4 nl2 nt2 _ _ (ne_of q hp2 (by intro z; cases z)) q)
    have hmv4 : TupT IntT H4 (.ref ma) rows := TupT.firm IntT.firm _ _ _ _ (same_tups s4) hmv3
    have hp4 := s4 _ _ (show _ = _ from upd_same)
    obtain ⟨rs', hk', hperm'⟩ := reorder nd hperm
    have ndy : ys.Nodup := sortedS_perm_nd hperm nd
    have hlen' : rs'.length = rs.length := hperm'.length_eq
    have hly : ys.length = rs'.length := by rw [← hk', List.length_map]
    refine ⟨_, rfl, p, T.c_System, dx, _, .ref t, rfl, upd_same, T.cl_System, T.na_System_names, (by rw [lookup_putF, if_neg (by decide +kernel), lookup_putF, if_pos rfl]), t, rfl, ⟨_, SqT.of ((upd_ne npt.symm).trans ht4)⟩, fun D nD => ?_⟩
    have nDp : D ≠ p := fun q => by subst q; rw [upd_same] at nD; cases nD
    have nD4 : H4 D = none := by rw [upd_ne nDp] at nD; exact nD
    refine dc_tup (K := K) (a := t) (xs := ys.map V.str) (fun i H5 => ∃ kv', H5 D = some (.dK kv') ∧ DctOf OptT H5 kv' (rs'.take i) ∧ Same (upd H4 p (.ins T.c_System dx (putF "ways" wv (putF "names" (.ref t) (putF "posts" (.int mvs.length) (putF "moves" (.ref ma) [])))))) H5)
      ⟨[], upd_same, .nil, same_new nD⟩ (fun i H5 _ ⟨_, _, _, q⟩ => SqT.of (q _ _ ((upd_ne npt.symm).trans ht4))) ?_ ?_
    · rintro i x H5 hi ⟨kv', e1, e2, e3⟩
      obtain ⟨z, hz, rfl⟩ := map_at hi
      have hil : i < rs'.length := by rw [← hly]; exact (List.getElem?_eq_some_iff.mp hz).1
      obtain ⟨⟨z', row⟩, hzr⟩ : ∃ q, rs'[i]? = some q := ⟨_, List.getElem?_eq_getElem hil⟩
      have ezz : z' = z := by
        have : (rs'.map (·.1))[i]? = some z := by rw [hk']; exact hz
        rw [List.getElem?_map, hzr] at this
        exact Option.some.inj this
      subst ezz
      have hm : (z', row) ∈ rs := hperm'.mem_iff.mp (List.mem_of_getElem? hzr)
      obtain ⟨v, hv, hO⟩ := dct_some hR4 nd hm
      have hk5 : ∀ e xs, H4 e = some (.tup xs) → H5 e = some (.tup xs) := fun e xs q => e3 _ _ ((upd_ne (ne_of q hp4 (by intro z; cases z))).trans q)
      have hd5 : H5 d = some (.dK kvs) := e3 _ _ ((upd_ne ndp).trans hd4)
      refine ⟨rfl, ?_⟩
      refine yesT ?_
      refine ⟨_, rfl, _, rfl, _, rfl, d, v, rfl, (by rw [← hv]; exact DGet.k (k := Sum.inr z') hd5), ?_⟩
      have hno : ¬ z' ∈ (rs'.take i).map (·.1) := by
        rw [List.map_take, hk']; exact take_nmem ndy hz
      refine ⟨kv', .inr z', rfl, e1, ?_, ?_⟩
      · rw [dct_len e2, List.length_take]; exact small1000 (by omega)
      rw [putK_new _ (dct_none e2 hno)]
      have hF : ∀ e xs, H5 e = some (.tup xs) → (upd H5 D (.dK (kv' ++ [(Sum.inr z', v)]))) e = some (.tup xs) := fun e xs q => (upd_ne (ne_of q e1 (by intro z; cases z))).trans q
      refine ⟨_, upd_same, ?_, same_upd e3 nD⟩
      rw [List.take_add_one, hzr]
      exact Paired.snoc (e2.firm OptT.firm hF) ⟨rfl, OptT.firm H5 _ _ _ hF (OptT.firm H4 _ _ _ hk5 hO)⟩
    · rintro H5 ⟨kv', e1, e2, e3⟩
      rw [List.length_map, hly, List.take_length] at e2
      have hp5 := e3 _ _ (show _ = _ from upd_same)
      refine ⟨_, rfl, p, T.c_System, dx, _, rfl, hp5, T.cl_System, T.na_System__requests, by omega, ?_⟩
      have hF : ∀ e xs, H4 e = some (.tup xs) → (upd H5 p (.ins T.c_System dx (putF "_requests" (.ref D) (putF "ways" wv (putF "names" (.ref t) (putF "posts" (.int mvs.length) (putF "moves" (.ref ma) []))))))) e = some (.tup xs) := fun e xs q =>
        (upd_ne (ne_of q hp4 (by intro z; cases z))).trans (e3 _ _ ((upd_ne (ne_of q hp4 (by intro z; cases z))).trans q))
      have hF5 : ∀ e xs, H5 e = some (.tup xs) → (upd H5 p (.ins T.c_System dx (putF "_requests" (.ref D) (putF "ways" wv (putF "names" (.ref t) (putF "posts" (.int mvs.length) (putF "moves" (.ref ma) []))))))) e = some (.tup xs) := fun e xs q =>
        (upd_ne (ne_of q hp5 (by intro z; cases z))).trans q
      have SQ : SysAtQ T.c_System (upd H5 p (.ins T.c_System dx (putF "_requests" (.ref D) (putF "ways" wv (putF "names" (.ref t) (putF "posts" (.int mvs.length) (putF "moves" (.ref ma) []))))))) p ⟨n, rows, ws, rs'⟩ D := by
        refine ⟨dx, .ref ma, t, wv, kv', ?_, ?_, ?_, ?_, ?_, ?_⟩
        · rw [upd_same]
          show some (HO.ins T.c_System dx (putF "_requests" (.ref D) (putF "ways" wv (putF "names" (.ref t) (putF "posts" (.int mvs.length) (putF "moves" (.ref ma) [])))))) = some (HO.ins T.c_System dx (sfs (.ref ma) n (.ref t) wv D))
          rw [hml]; rfl
        · exact TupT.firm IntT.firm _ _ _ _ hF hmv4
        · show _ = some (HO.tup ((rs'.map (·.1)).map V.str))
          rw [hk']; exact hF t _ ht4
        · exact TupT.firm IntT.firm _ _ _ _ hF hwv
        · rw [upd_ne nDp]; exact e1
        · exact e2.firm OptT.firm hF5
      refine k ⟨n, rows, ws, rs'⟩ _ D ⟨h1, h6, sq, hW, ?_, ?_, ?_, ?_, ?_⟩ rfl rfl hperm' SQ ?_ ?_
      · show (rs'.map (·.1)).Nodup
        rw [hk']; exact ndy
      · show sortedS (rs'.map (·.1)) = true
        rw [hk']; exact hsort
      · show 1 ≤ rs'.length
        omega
      · show rs'.length ≤ 5
        omega
      · exact fun q hq => hP q (hperm'.mem_iff.mp hq)
      · intro b o e z
        subst z
        by_cases nb : D = p
        · exact nDp nb
        · rw [s4 _ _ (keep4 nl2 nt2 _ _ nb (s2 _ _ (s1 _ _ e)))] at nD4
          cases nD4
      · intro b o nb e
        rw [upd_ne nb]
        exact e3 _ _ ((upd_ne nb).trans (s4 _ _ (keep4 nl2 nt2 _ _ nb (s2 _ _ (s1 _ _ e)))))
end
end Toy

namespace Toy
open PySem PySem.Spec PyProof.Rows L2
local macro_rules | `(tactic| walk_at "hp") => `(tactic| first
  | assumption
  | exact upd_same
  | (refine Eq.trans (upd_ne (by first | assumption | (apply Ne.symm; assumption))) ?_; walk_at "hp"))
local macro_rules | `(tactic| walk_at "side") => `(tactic| first
  | exact .inl ⟨by omega, by omega⟩
  | exact .inr ⟨by omega, by omega⟩
  | exact ⟨by omega, by omega⟩
  | (show _ ≤ _; omega)
  | (show (_ : Int) < _; omega)
  | decide
  | assumption)
local macro_rules | `(tactic| walk_at "r") => `(tactic| first
  | refine ⟨_, rfl, ?_⟩
  | refine ⟨_, _, rfl, rfl, ?_⟩
  | refine ⟨_, _, _, _, rfl, rfl, SqL.of (by walk_at "hp"), rfl, ?_⟩
  | refine ⟨_, _, _, _, rfl, rfl, SqT.of (by walk_at "hp"), rfl, ?_⟩
  | refine ⟨_, _, _, _, rfl, rfl, (by walk_at "hp"), rfl, ?_⟩
  | refine And.intro rfl ?_
  | refine ⟨_, _, rfl, SqT.of (by walk_at "hp"), ?_⟩
  | refine ⟨_, _, rfl, SqL.of (by walk_at "hp"), ?_⟩
  | refine .inl ⟨_, rfl, ?_⟩
  | refine ⟨_, _, rfl, .inl (SqL.of (by walk_at "hp")), ?_⟩
  | refine ⟨_, _, rfl, .inr (SqT.of (by walk_at "hp")), ?_⟩
  | refine ⟨_, _, rfl, .inl ⟨SqL.of (by walk_at "hp"), ?_⟩⟩
  | refine And.intro (.inl ⟨rfl, _, SqL.of (by walk_at "hp")⟩) ?_
  | refine ⟨_, _, _, rfl, rfl, (by walk_at "hp"), ?_⟩
  | refine ⟨_, _, rfl, (by walk_at "hp"), ?_⟩
  | refine And.intro (by walk_at "side") ?_)
local macro_rules | `(tactic| walk_at "rr") => `(tactic| (repeat walk_at "r"))
local macro_rules | `(tactic| walk_at "k") => `(tactic| first
  | refine ite2 (fun _ => ?_) (fun g => absurd rfl g)
  | refine ite2 (fun g => absurd g (by decide)) (fun _ => ?_)
  | refine ite2 (fun _ => ?_) (fun g => absurd (decide_eq_true (by omega)) g)
  | refine ite2 (fun g => absurd (of_decide_eq_true g) (by omega)) (fun _ => ?_)
  | refine ite2 (fun g => (nd_t g (by omega)).elim) (fun _ => ?_)
  | refine ite2 (fun _ => ?_) (fun g => absurd (nd_f g) (by omega)))
local macro_rules | `(tactic| walk_at "rk") => `(tactic| (repeat (first | walk_at "r" | walk_at "k")))
def optL (n : Nat) (L : Nat → Option Int) : List V := (List.range n).map fun b => vO (L b)
theorem optL_len (n : Nat) (L : Nat → Option Int) : (optL n L).length = n := by unfold optL; rw [List.length_map, List.length_range]
theorem optL_at {n b : Nat} {L : Nat → Option Int} (h : b < n) : (optL n L)[b]? = some (vO (L b)) := by unfold optL; rw [List.getElem?_map, List.getElem?_range h]; rfl
theorem optL_set {n b : Nat} {L : Nat → Option Int} {v : Int} : (optL n L).set b (.int v) = optL n (setL L b v) := by
  apply List.ext_getElem?
  intro j
  rw [List.getElem?_set]
  by_cases hj : j < n
  · rw [optL_at hj, optL_at hj, optL_len]
    unfold setL
    by_cases e : b = j
    · subst e; rw [if_pos rfl, if_pos hj, if_pos rfl]; rfl
    · rw [if_neg e, if_neg fun z => e z.symm]
  · have h1 : (optL n L)[j]? = none := List.getElem?_eq_none (by rw [optL_len]; omega)
    have h2 : (optL n (setL L b v))[j]? = none := List.getElem?_eq_none (by rw [optL_len]; omega)
    rw [h1, h2, optL_len]
    by_cases e : b = j
    · subst e; rw [if_pos rfl, if_neg hj]
    · rw [if_neg e]
/-- what is done of a round: pairs ahead of (a, b) -/
structure Rnd (n : Nat) (R : Nat → Nat → Int) (L0 L : Nat → Option Int) (a b : Nat) : Prop where
  rl : Rl n L0 L
  dn : ∀ a' b', a' < n → b' < n → (a' < a ∨ (a' = a ∧ b' < b)) → Dn n R L0 L a' b'
theorem Rnd.start {n : Nat} {R : Nat → Nat → Int} {L : Nat → Option Int} : Rnd n R L L 0 0 := ⟨.refl, fun a' b' _ _ h => by omega⟩
theorem Rnd.next {n : Nat} {R : Nat → Nat → Int} {L0 L : Nat → Option Int} {a : Nat} (r : Rnd n R L0 L a n) : Rnd n R L0 L (a + 1) 0 := ⟨r.rl, fun a' b' h1 h2 h => r.dn a' b' h1 h2 (by omega)⟩
theorem Rnd.step {n : Nat} {R : Nat → Nat → Int} {L0 L L' : Nat → Option Int} {a b : Nat} (r : Rnd n R L0 L a b) (ha : a < n) (g : Rl n L L') (d : Dn n R L L' a b) : Rnd n R L0 L' a (b + 1) := by
  refine ⟨r.rl.trans g, fun a' b' h1 h2 h => ?_⟩
  by_cases e : a' < a ∨ (a' = a ∧ b' < b)
  · exact (r.dn a' b' h1 h2 e).mono h2 g
  · obtain ⟨rfl, rfl⟩ : a' = a ∧ b' = b := by omega
    exact Dn.now ha r.rl d
/-- from c on, loosened k times, to L -/
structure Lsn (n : Nat) (R : Nat → Nat → Int) (c : Nat → Option Int) (k : Nat) (L : Nat → Option Int) : Prop where
  up : Up n R c k L
  lo : ∀ lw : Nat → Int, (∀ a b, a < n → b < n → lw b ≤ lw a + R a b) → Snb n lw c → Snb n lw L
def spLeast : Sp := fun vs H Q _ => ∃ (mv : V) (rows : List (List Int)) (n : Int) (ca : Addr) (c : Nat → Option Int), vs = [mv, .ref ca] ∧ TupT IntT H mv rows ∧ Square n 9 rows ∧ 1 ≤ n ∧ n ≤ 6 ∧ H ca = some (.lst (optL n.toNat c)) ∧
  ∀ t L H', Same H H' → H' t = some (.lst (optL n.toNat L)) → Lsn n.toNat (mat rows) c n.toNat L → Q (.ref t) H'
section
variable {P : Program} {w : World} {K : PySem.W.Frag} {mg : Str → Option Value} {base : Heap}
end
end Toy

namespace Toy
open PySem PySem.Spec PyProof.Rows L2
local macro_rules | `(tactic| walk_at "hp") => `(tactic| first
  | assumption
  | exact upd_same
  | (refine Eq.trans (upd_ne (by first | assumption | (apply Ne.symm; assumption))) ?_; walk_at "hp"))
local macro_rules | `(tactic| walk_at "side") => `(tactic| first
  | exact .inl ⟨by omega, by omega⟩
  | exact .inr ⟨by omega, by omega⟩
  | exact ⟨by omega, by omega⟩
  | (show _ ≤ _; omega)
  | (show (_ : Int) < _; omega)
  | decide
  | assumption)
local macro_rules | `(tactic| walk_at "r") => `(tactic| first
  | refine ⟨_, rfl, ?_⟩
  | refine ⟨_, _, rfl, rfl, ?_⟩
  | refine ⟨_, _, _, _, rfl, rfl, SqL.of (by walk_at "hp"), rfl, ?_⟩
  | refine ⟨_, _, _, _, rfl, rfl, SqT.of (by walk_at "hp"), rfl, ?_⟩
  | refine ⟨_, _, _, _, rfl, rfl, (by walk_at "hp"), rfl, ?_⟩
  | refine And.intro rfl ?_
  | refine ⟨_, _, rfl, SqT.of (by walk_at "hp"), ?_⟩
  | refine ⟨_, _, rfl, SqL.of (by walk_at "hp"), ?_⟩
  | refine .inl ⟨_, rfl, ?_⟩
  | refine ⟨_, _, rfl, .inl (SqL.of (by walk_at "hp")), ?_⟩
  | refine ⟨_, _, rfl, .inr (SqT.of (by walk_at "hp")), ?_⟩
  | refine ⟨_, _, rfl, .inl ⟨SqL.of (by walk_at "hp"), ?_⟩⟩
  | refine And.intro (.inl ⟨rfl, _, SqL.of (by walk_at "hp")⟩) ?_
  | refine ⟨_, _, _, rfl, rfl, (by walk_at "hp"), ?_⟩
  | refine ⟨_, _, rfl, (by walk_at "hp"), ?_⟩
  | refine And.intro (by walk_at "side") ?_)
local macro_rules | `(tactic| walk_at "rr") => `(tactic| (repeat walk_at "r"))
local macro_rules | `(tactic| walk_at "k") => `(tactic| first
  | refine ite2 (fun _ => ?_) (fun g => absurd rfl g)
  | refine ite2 (fun g => absurd g (by decide)) (fun _ => ?_)
  | refine ite2 (fun _ => ?_) (fun g => absurd (decide_eq_true (by omega)) g)
  | refine ite2 (fun g => absurd (of_decide_eq_true g) (by omega)) (fun _ => ?_)
  | refine ite2 (fun g => (nd_t g (by omega)).elim) (fun _ => ?_)
  | refine ite2 (fun _ => ?_) (fun g => absurd (nd_f g) (by omega)))
local macro_rules | `(tactic| walk_at "rk") => `(tactic| (repeat (first | walk_at "r" | walk_at "k")))
/-- numbers closed by the ways -/
def clAt (n : Nat) (ws : List (List Int)) (dr : List Int) (b : Nat) : Int := minL ((List.range n).map fun a => dr.getD a 0 + mat ws a b)
def clL (n : Nat) (ws : List (List Int)) (dr : List Int) : List Int := (List.range n).map (clAt n ws dr)
theorem clL_len {n : Nat} {ws : List (List Int)} {dr : List Int} : (clL n ws dr).length = n := by unfold clL; rw [List.length_map, List.length_range]
theorem clL_at {n b : Nat} {ws : List (List Int)} {dr : List Int} (h : b < n) : (clL n ws dr).getD b 0 = clAt n ws dr b := by
  unfold clL
  rw [List.getD_eq_getElem?_getD, List.getElem?_map, List.getElem?_range h]
  rfl
theorem clAt_le {n a b : Nat} {ws : List (List Int)} {dr : List Int} (h : a < n) : clAt n ws dr b ≤ dr.getD a 0 + mat ws a b := minL_le (List.mem_map.mpr ⟨a, List.mem_range.mpr h, rfl⟩)
theorem clAt_has {n b : Nat} {ws : List (List Int)} {dr : List Int} (h : 0 < n) : ∃ a, a < n ∧ clAt n ws dr b = dr.getD a 0 + mat ws a b := by
  have hne : (List.range n).map (fun a => dr.getD a 0 + mat ws a b) ≠ [] := by
    intro e
    have := congrArg List.length e
    rw [List.length_map, List.length_range] at this
    simp at this
    omega
  obtain ⟨a, ha, e⟩ := List.mem_map.mp (minL_mem hne)
  exact ⟨a, List.mem_range.mp ha, e.symm⟩
theorem closed_ok {n : Nat} {ws : List (List Int)} {dr : List Int} (M : Met n ws) (hn : 0 < n) : OffOk n ws (newOff (clL n ws dr)) := by
  have hr : (clL n ws dr).length = n := clL_len
  obtain ⟨⟨b0, hb0, e0⟩, hmin⟩ := min_at (r := clL n ws dr) (by omega)
  refine ⟨by unfold newOff; rw [List.length_map]; exact hr, fun b hb => ?_, ⟨b0, by omega, ?_⟩, fun a b ha hb => ?_⟩
  · rw [newOff_at (by omega)]
    have := hmin b (by omega)
    omega
  · rw [newOff_at hb0]; omega
  · rw [newOff_at (by omega), newOff_at (by omega), clL_at ha, clL_at hb]
    obtain ⟨p, hp, e⟩ := clAt_has (ws := ws) (dr := dr) (b := a) hn
    have h1 := clAt_le (ws := ws) (dr := dr) (b := b) hp
    have h2 := M.tri p a b hp ha hb
    omega
def spOffsets : Sp := fun vs H Q _ => ∃ (d c L : Addr) (M : Nat → Nat → Int) (n : Int) (ws : List (List Int)) (most : Int), vs = [.ref d, .ref L, .int most] ∧ Dice c H d ∧ L ≠ d ∧ LM H L n.toNat M ∧ (∀ i j, i < n.toNat → j < n.toNat → M i j = mat ws i j) ∧ Met n.toNat ws ∧ 1 ≤ n ∧ n ≤ 6 ∧ 0 ≤ most ∧ most ≤ 10 ^ 20 ∧
  ∀ v off H', Keep d H H' → Dice c H' d → IntT H' v off → OffOk n.toNat ws off → Q v H'
section
variable {P : Program} {w : World} {K : PySem.W.Frag} {mg : Str → Option Value} {base : Heap}
end
end Toy

namespace Toy
open PySem PySem.Spec PyProof.Rows L2
local macro_rules | `(tactic| walk_at "hp") => `(tactic| first
  | assumption
  | exact upd_same
  | (refine Eq.trans (upd_ne (by first | assumption | (apply Ne.symm; assumption))) ?_; walk_at "hp"))
local macro_rules | `(tactic| walk_at "side") => `(tactic| first
  | exact .inl ⟨by omega, by omega⟩
  | exact .inr ⟨by omega, by omega⟩
  | exact ⟨by omega, by omega⟩
  | (show _ ≤ _; omega)
  | (show (_ : Int) < _; omega)
  | decide
  | assumption)
local macro_rules | `(tactic| walk_at "r") => `(tactic| first
  | refine ⟨_, rfl, ?_⟩
  | refine ⟨_, _, rfl, rfl, ?_⟩
  | refine ⟨_, _, _, _, rfl, rfl, SqL.of (by walk_at "hp"), rfl, ?_⟩
  | refine ⟨_, _, _, _, rfl, rfl, SqT.of (by walk_at "hp"), rfl, ?_⟩
  | refine ⟨_, _, _, _, rfl, rfl, (by walk_at "hp"), rfl, ?_⟩
  | refine And.intro rfl ?_
  | refine ⟨_, _, rfl, SqT.of (by walk_at "hp"), ?_⟩
  | refine ⟨_, _, rfl, SqL.of (by walk_at "hp"), ?_⟩
  | refine .inl ⟨_, rfl, ?_⟩
  | refine ⟨_, _, rfl, .inl (SqL.of (by walk_at "hp")), ?_⟩
  | refine ⟨_, _, rfl, .inr (SqT.of (by walk_at "hp")), ?_⟩
  | refine ⟨_, _, rfl, .inl ⟨SqL.of (by walk_at "hp"), ?_⟩⟩
  | refine And.intro (.inl ⟨rfl, _, SqL.of (by walk_at "hp")⟩) ?_
  | refine ⟨_, _, _, rfl, rfl, (by walk_at "hp"), ?_⟩
  | refine ⟨_, _, rfl, (by walk_at "hp"), ?_⟩
  | refine And.intro (by walk_at "side") ?_)
local macro_rules | `(tactic| walk_at "rr") => `(tactic| (repeat walk_at "r"))
local macro_rules | `(tactic| walk_at "k") => `(tactic| first
  | refine ite2 (fun _ => ?_) (fun g => absurd rfl g)
  | refine ite2 (fun g => absurd g (by decide)) (fun _ => ?_)
  | refine ite2 (fun _ => ?_) (fun g => absurd (decide_eq_true (by omega)) g)
  | refine ite2 (fun g => absurd (of_decide_eq_true g) (by omega)) (fun _ => ?_)
  | refine ite2 (fun g => (nd_t g (by omega)).elim) (fun _ => ?_)
  | refine ite2 (fun _ => ?_) (fun g => absurd (nd_f g) (by omega)))
local macro_rules | `(tactic| walk_at "rk") => `(tactic| (repeat (first | walk_at "r" | walk_at "k")))
def spRight : Sp := fun vs H Q _ => ∃ (mv ov pv tv : V) (t : Addr) (rows : List (List Int)) (n r : Int) (off raw : List Int) (row : List (Option Int)) (ws : List (List Int)), vs = [mv, ov, pv, .ref t] ∧ TupT IntT H mv rows ∧ Square n 9 rows ∧ 1 ≤ n ∧ n ≤ 6 ∧ IntT H ov off ∧ off.length = n.toNat ∧
  OptT H pv row ∧ (row.length : Int) = n ∧ (∃ x : Int, some x ∈ row) ∧ Least n.toNat (mat rows) (mat ws) ∧ raw = rawL n.toNat ws (srv n.toNat off row) ∧ r = minL raw ∧ H t = some (.tup [tv, .int r]) ∧ IntT H tv (newOff raw) ∧ ∀ H', Same H H' → Q (.bl true) H'
section
variable {P : Program} {w : World} {K : PySem.W.Frag} {mg : Str → Option Value} {base : Heap}
end
end Toy

namespace Toy
open PySem PySem.Spec PyProof.Rows L2
local macro_rules | `(tactic| walk_at "hp") => `(tactic| first
  | assumption
  | exact upd_same
  | (refine Eq.trans (upd_ne (by first | assumption | (apply Ne.symm; assumption))) ?_; walk_at "hp"))
local macro_rules | `(tactic| walk_at "side") => `(tactic| first
  | exact .inl ⟨by omega, by omega⟩
  | exact .inr ⟨by omega, by omega⟩
  | exact ⟨by omega, by omega⟩
  | (show _ ≤ _; omega)
  | (show (_ : Int) < _; omega)
  | decide
  | assumption)
local macro_rules | `(tactic| walk_at "r") => `(tactic| first
  | refine ⟨_, rfl, ?_⟩
  | refine ⟨_, _, rfl, rfl, ?_⟩
  | refine ⟨_, _, _, _, rfl, rfl, SqL.of (by walk_at "hp"), rfl, ?_⟩
  | refine ⟨_, _, _, _, rfl, rfl, SqT.of (by walk_at "hp"), rfl, ?_⟩
  | refine ⟨_, _, _, _, rfl, rfl, (by walk_at "hp"), rfl, ?_⟩
  | refine And.intro rfl ?_
  | refine ⟨_, _, rfl, SqT.of (by walk_at "hp"), ?_⟩
  | refine ⟨_, _, rfl, SqL.of (by walk_at "hp"), ?_⟩
  | refine .inl ⟨_, rfl, ?_⟩
  | refine ⟨_, _, rfl, .inl (SqL.of (by walk_at "hp")), ?_⟩
  | refine ⟨_, _, rfl, .inr (SqT.of (by walk_at "hp")), ?_⟩
  | refine ⟨_, _, rfl, .inl ⟨SqL.of (by walk_at "hp"), ?_⟩⟩
  | refine And.intro (.inl ⟨rfl, _, SqL.of (by walk_at "hp")⟩) ?_
  | refine ⟨_, _, _, rfl, rfl, (by walk_at "hp"), ?_⟩
  | refine ⟨_, _, rfl, (by walk_at "hp"), ?_⟩
  | refine And.intro (by walk_at "side") ?_)
local macro_rules | `(tactic| walk_at "rr") => `(tactic| (repeat walk_at "r"))
local macro_rules | `(tactic| walk_at "k") => `(tactic| first
  | refine ite2 (fun _ => ?_) (fun g => absurd rfl g)
  | refine ite2 (fun g => absurd g (by decide)) (fun _ => ?_)
  | refine ite2 (fun _ => ?_) (fun g => absurd (decide_eq_true (by omega)) g)
  | refine ite2 (fun g => absurd (of_decide_eq_true g) (by omega)) (fun _ => ?_)
  | refine ite2 (fun g => (nd_t g (by omega)).elim) (fun _ => ?_)
  | refine ite2 (fun _ => ?_) (fun g => absurd (nd_f g) (by omega)))
local macro_rules | `(tactic| walk_at "rk") => `(tactic| (repeat (first | walk_at "r" | walk_at "k")))
theorem getD_some {xs : List Int} {i : Nat} {x : Int} (h : xs[i]? = some x) : xs.getD i 0 = x := by
  rw [List.getD_eq_getElem?_getD, h]
  rfl
/-- right offsets, as a thing -/
def OffIs (n : Int) (ws : List (List Int)) (H : Hp) (v : V) : Prop := ∃ off, IntT H v off ∧ OffOk n.toNat ws off
theorem OffIs.same {n : Int} {ws : List (List Int)} {H H' : Hp} {v : V} (h : OffIs n ws H v) (k : Same H H') : OffIs n ws H' v := by
  obtain ⟨off, h1, h2⟩ := h
  exact ⟨off, IntT.firm _ _ _ _ (same_tups k) h1, h2⟩
theorem map_int_inj : ∀ {xs ys : List Int}, xs.map V.int = ys.map V.int → xs = ys
  | [], [], _ => rfl
  | [], _ :: _, h => by cases h
  | _ :: _, [], h => by cases h
  | x :: t, y :: u, h => by
    have h : V.int x :: t.map V.int = V.int y :: u.map V.int := h
    injection h with h1 h2
    injection h1 with h1
    rw [h1, map_int_inj h2]
theorem offIs_tup {n : Int} {ws : List (List Int)} {H : Hp} {a : Addr} {xs : List V} (h : OffIs n ws H (.ref a)) (e : H a = some (.tup xs)) : ∃ off, xs = off.map V.int ∧ OffOk n.toNat ws off := by
  obtain ⟨off, ⟨a', e1, h1⟩, h2⟩ := h
  cases e1
  rw [e] at h1
  injection h1 with h1
  injection h1 with h1
  exact ⟨off, h1, h2⟩
theorem offIs_ints {n : Int} {ws : List (List Int)} {H : Hp} {a : Addr} {off : List Int} (e : H a = some (.tup (off.map V.int))) : OffIs n ws H (.ref a) ↔ OffOk n.toNat ws off := by
  constructor
  · intro h
    obtain ⟨off', h1, h2⟩ := offIs_tup h e
    rw [map_int_inj h1]; exact h2
  · exact fun h => ⟨off, ⟨a, rfl, e⟩, h⟩
/-- a thing whose items, if it is a tuple, are of the built-in kinds -/
structure Thg (K : PySem.W.Frag) (H : Hp) (v : V) : Prop where
  ty : ∃ n, TyG K H v n
  it : ∀ a xs, v = .ref a → H a = some (.tup xs) → ∀ x ∈ xs, ∃ n, tyN H x = some n
theorem Thg.same {K : PySem.W.Frag} {H H' : Hp} {v : V} (h : Thg K H v) (k : Same H H') : Thg K H' v := by
  obtain ⟨n, hn⟩ := h.ty
  refine ⟨⟨n, hn.same k⟩, fun a xs e h1 x hx => ?_⟩
  have h0 : H a = some (.tup xs) := by
    subst e
    cases hn with
    | blt hb =>
      cases q : H a with
      | none => unfold tyN at hb; simp only [q] at hb; cases hb
      | some o => rw [k _ _ q] at h1; cases h1; rfl
    | ins q _ _ => rw [k _ _ q] at h1; cases h1
    | err q _ => rw [k _ _ q] at h1; cases h1
  obtain ⟨m, hm⟩ := h.it a xs e h0 x hx
  exact ⟨m, tyN_keep k hm⟩
theorem nats_of : ∀ {xs : List V}, (∀ i, i < xs.length → isNat (xs.getD i .non) = true) → ∃ off : List Int, xs = off.map V.int ∧ ∀ b, b < off.length → 0 ≤ off.getD b 0
  | [], _ => ⟨[], rfl, fun b hb => absurd hb (Nat.not_lt_zero _)⟩
  | x :: t, h => by
    obtain ⟨off, e, ho⟩ := nats_of (xs := t) fun i hi => by
      have := h (i + 1) (by rw [List.length_cons]; omega)
      simpa using this
    have h0 : isNat x = true := h 0 (by simp)
    cases x with
    | int i =>
      refine ⟨i :: off, by rw [e]; rfl, fun b hb => ?_⟩
      cases b with
      | zero => exact of_decide_eq_true h0
      | succ b =>
        have := ho b (by rw [List.length_cons] at hb; omega)
        simpa using this
    | _ => cases h0
theorem fold_min_has : ∀ (os : List Int) (o : Int), os.foldl min o ∈ o :: os
  | [], o => List.mem_cons_self
  | x :: t, o => by
    have h := fold_min_has t (min o x)
    rw [List.foldl_cons]
    rcases List.mem_cons.mp h with h | h
    · rw [h]
      by_cases e : o ≤ x
      · rw [Int.min_eq_left e]; exact List.mem_cons_self
      · rw [Int.min_eq_right (by omega)]; exact List.mem_cons_of_mem _ List.mem_cons_self
    · exact List.mem_cons_of_mem _ (List.mem_cons_of_mem _ h)
def spIsOffG (K : PySem.W.Frag) (C : Addr) : Sp := fun vs H Q _ => ∃ (p : Addr) (S : Sys) (v : V), vs = [.ref p, v] ∧ SysOk S ∧ SysAt C H p S ∧ Thg K H v ∧ ∀ b H', Same H H' → (b = true ↔ OffIs S.n S.ws H v) → Q (.bl b) H'
def spFirst (C : Addr) : Sp := fun vs H Q _ => ∃ (p : Addr) (S : Sys), vs = [.ref p] ∧ SysOk S ∧ SysAt C H p S ∧ ∀ v off, IntT H v off → off.length = S.n.toNat → (∀ b, b < S.n.toNat → off.getD b 0 = mat S.ws 0 b) → Q v H
section
variable {P : Program} {w : World} {K : PySem.W.Frag} {mg : Str → Option Value} {base : Heap}
theorem ok_is_offsets (T : Top K mg) : Ok P w K mg base 3 "is_offsets" ["system", "thing"] (spIsOffG K T.c_System) := by
  refine ok_of T.d_is_offsets sc_is_offsets (fun vs H Q E h => ?_) (fun f cdv A outer s H vs Q E hr h => ?_)
  · obtain ⟨p, S, v, rfl, _⟩ := h
    rfl
  · obtain ⟨p, S, v, rfl, ok, SA, hT, k⟩ := h
    obtain ⟨f_is_natural, fd_is_natural, m_is_natural, k_is_natural, b_is_natural, G_is_natural⟩ := ok_is_natural (P := P) (w := w) (base := base) T
    have hr_is_natural : Room 2 _ := hr.mono (by decide)
    obtain ⟨f_is_tuple_of, fd_is_tuple_of, m_is_tuple_of, k_is_tuple_of, b_is_tuple_of, G_is_tuple_of⟩ := ok_is_tuple_of (P := P) (w := w) (base := base) T
    have hr_is_tuple_of : Room 1 _ := hr.mono (by decide)
    obtain ⟨f_is_tuple_of, fd_is_tuple_of, m_is_tuple_of, k_is_tuple_of, b_is_tuple_of, G_is_tuple_of⟩ := okG_is_tuple_of (P := P) (w := w) (base := base) T
    have hu64 := hr.units
    obtain ⟨dx, mv, na, wv, q, kvs, hp, h2, h3, h4, hq, hR⟩ := SA.ex
    obtain ⟨wa, wvs, rfl, hwa, hwp⟩ := h4
    have n1 := ok.n1
    have n6 := ok.n6
    have hwl := ok.wy.len
    have hwr := ok.wy.row
    have hl := prd_len hwp
    obtain ⟨n, hn⟩ := hT.ty
    refine ⟨_, (pss_cons (ps_if (PW.pt (pw_or (pt_not (pt_val (pe_call G_is_tuple_of hr_is_tuple_of rfl m_is_tuple_of k_is_tuple_of b_is_tuple_of .nil pass0 (pa_cons (pv 1) (pa_cons (pe_fld (pv 0) rfl) pa_nil))))) (pw_or1 (pt_not (pt_val (pe_callB (id := "all") (cr_all rfl) (by rfl) T.b_all (by decide +kernel) (pa_cons (pe_lc (own := [("offset", 2)]) (g := gName 2) rfl sc_is_offsets.nd (pi_tup (pv 1)) (blkOk_by (own := [("offset", 2)]) (N := ["system", "thing", "offset", "ways", "other", "way"]) (sc := defScope s_is_offsets) (by decide +kernel)) (fun _ _ _ _ _ => (pg_name (i := 2) sc_is_offsets.nd rfl (Or.inl rfl))) (fun _ _ _ _ _ => pts_nil) (fun _ _ _ _ _ => (pe_call G_is_natural hr_is_natural rfl m_is_natural k_is_natural b_is_natural .nil pass0 (pa_cons (pv 2) pa_nil)))) pa_nil)))))))
      (pss_one (ps_ret pe_bl))
      pss_nil)
      (pss_cons (ps_if (pt_cmpR op_gt (pe_callB (id := "min") (cr_minT rfl hu64) (by rfl) T.b_min (by decide +kernel) (pa_cons (pv 1) pa_nil)) pe_int (nomark _))
      (pss_one (ps_ret pe_bl))
      pss_nil)
      (pss_cons (ps_for PassesOwn.never rfl (RZ.pi_zipA (by rfl) T.b_zip (pa_cons (pv 1) (pa_cons (pe_fld (pv 0) rfl) pa_nil))) (pg_tup rfl (pgs_cons (pg_name (i := 2) sc_is_offsets.nd rfl (Or.inr rfl)) (pgs_cons (pg_name (i := 3) sc_is_offsets.nd rfl (Or.inl rfl)) pgs_nil)))
      (pss_one (ps_if (pt_val (pe_callB (id := "any") (cr_any rfl) (by rfl) T.b_any (by decide +kernel) (pa_cons (pe_lc (own := [("other", 4), ("way", 5)]) rfl sc_is_offsets.nd (RZ.pi_zipA (by rfl) T.b_zip (pa_cons (pv 1) (pa_cons (pv 3) pa_nil))) (blkOk_by (own := [("other", 4), ("way", 5)]) (N := ["system", "thing", "offset", "ways", "other", "way"]) (sc := defScope s_is_offsets) (by decide +kernel)) (fun _ _ _ _ _ => ((pg_tup rfl (pgs_cons (pg_name (i := 4) sc_is_offsets.nd rfl (Or.inl rfl)) (pgs_cons (pg_name (i := 5) sc_is_offsets.nd rfl (Or.inl rfl)) pgs_nil))) : PG _ _ (gTup K 2 (gCons (gName 4) (gCons (gName 5) gNil))))) (fun _ _ _ _ _ => pts_nil) (fun _ _ _ _ _ => (pe_cmpR op_gt (pv 4) (pe_op op_add (pv 2) (pv 5)) (nomark _)))) pa_nil)))
      (pss_one (ps_ret pe_bl))
      pss_nil)))
      (pss_one (ps_ret pe_bl))))), ?_⟩
    refine ⟨_, rfl, _, rfl, p, T.c_System, dx, _, _, rfl, hp, T.cl_System, T.na_System_posts, sfs_posts, v, n, _, rfl, hn, _, rfl, ?_⟩
    cases hb : isTup H S.n v with
    | false =>
      refine ite2 (fun _ => ?_) (fun g => absurd rfl g)
      refine k false _ (Same.refl _) ⟨fun z => (nomatch z), ?_⟩
      rintro ⟨off, ⟨a, rfl, ha⟩, O⟩
      rw [tup_isTup ha (by rw [List.length_map, O.len]; omega)] at hb
      cases hb
    | true =>
      refine ite2 (fun g => nomatch g) (fun _ => ?_)
      obtain ⟨a, xs, rfl, ha, hlx⟩ := isTup_yes hb
      have hit := hT.it a xs rfl ha
      refine ⟨_, rfl, a, rfl, ⟨_, SqT.of ha⟩, fun D nD => ?_⟩
      refine lc_tup (K := K) (a := a) (xs := xs) (fun j H4 => ∃ bs, H4 D = some (.lst (bs.map V.bl)) ∧ Told (fun i => isNat (xs.getD i .non) = true) j bs ∧ Same H H4) ⟨[], upd_same, .nil, same_new nD⟩ (fun j H4 _ ⟨_, _, _, h4⟩ => SqT.of (h4 _ _ ha)) ?_ ?_
      · rintro j z H4 hj ⟨bs, q1, q2, q3⟩
        obtain ⟨m, hm⟩ := hit z (List.mem_of_getElem? hj)
        have hjl := (List.getElem?_eq_some_iff.mp hj).1
        refine ⟨rfl, ?_⟩
        refine yesT ?_
        refine ⟨_, rfl, z, m, rfl, tyN_keep q3 hm, ?_⟩
        refine ⟨_, q1, ?_, bs ++ [isNat z], ?_, q2.snoc (by rw [getD_at hj]), same_upd q3 nD⟩
        · rw [List.length_map, q2.len]; exact small1000 (by omega)
        · rw [upd_same, bl_snoc]
      · rintro H4 ⟨bs, q1, q2, q3⟩
        refine ⟨D, _, rfl, SqL.of q1, ?_⟩
        refine ⟨_, rfl, ?_⟩
        cases hbs : bs.all id with
        | false =>
          refine ite2 (fun _ => ?_) (fun g => absurd rfl g)
          refine k false _ q3 ⟨fun z => (nomatch z), fun h => ?_⟩
          obtain ⟨off, rfl, O⟩ := offIs_tup h ha
          have : bs.all id = true := q2.all.mpr fun i hi => by
            rw [List.length_map] at hi
            rw [List.getD_eq_getElem?_getD, List.getElem?_map, List.getElem?_eq_getElem hi]
            have := O.nn i (by rw [O.len] at hi; exact hi)
            rw [List.getD_eq_getElem?_getD, List.getElem?_eq_getElem hi] at this
            exact decide_eq_true this
          rw [hbs] at this; cases this
        | true =>
          refine ite2 (fun g => nomatch g) (fun _ => ?_)
          obtain ⟨off, rfl, hnn⟩ := nats_of fun i hi => q2.all.mp hbs i hi
          rw [List.length_map] at hlx
          have hol : off.length = S.n.toNat := by omega
          have hiff := offIs_ints (n := S.n) (ws := S.ws) ha
          have hb4 := q3 _ _ ha
          have hp4 := q3 _ _ hp
          have hwa4 := q3 _ _ hwa
          obtain ⟨o0, os, he⟩ : ∃ o os, off = o :: os := by
            cases off with
            | nil => simp at hol; omega
            | cons o os => exact ⟨o, os, rfl⟩
          refine ⟨_, rfl, a, o0, os, rfl, SqT.of (by rw [← he]; exact hb4), _, _, rfl, rfl, _, rfl, ?_⟩
          obtain ⟨f1, f2⟩ := foldl_min_le os o0
          refine ite2 (fun g => ?_) (fun g => ?_)
          · have g := of_decide_eq_true g
            refine k false _ q3 ⟨fun z => (nomatch z), fun h => ?_⟩
            have O := hiff.mp h
            obtain ⟨c, hc, e⟩ := O.zero
            rw [he] at e hol
            have : os.foldl min o0 ≤ (o0 :: os).getD c 0 := by
              cases c with
              | zero => exact f1
              | succ c =>
                rw [List.getD_eq_getElem?_getD, List.getElem?_cons_succ]
                have hc2 : c < os.length := by simp at hol; omega
                rw [List.getElem?_eq_getElem hc2]
                exact f2 _ (List.getElem_mem hc2)
            omega
          · have g : os.foldl min o0 ≤ 0 := le_not (fun z => g (decide_eq_true z))
            have hz : ∃ b, b < S.n.toNat ∧ off.getD b 0 = 0 := by
              obtain ⟨b, hb⟩ := List.getElem?_of_mem (fold_min_has os o0)
              rw [← he] at hb
              have hbl := (List.getElem?_eq_some_iff.mp hb).1
              have := hnn b hbl
              rw [getD_some hb] at this
              exact ⟨b, by omega, by rw [getD_some hb]; omega⟩
            refine ⟨_, rfl, _, rfl, p, T.c_System, dx, _, _, rfl, hp4, T.cl_System, T.na_System_ways, sfs_ways, a, wa, _, _, rfl, .inr ⟨SqT.of hb4, SqT.of hwa4, ?_⟩⟩
            refine for_it (walk_zipT (n := S.n.toNat) (by rw [List.length_map]; omega)) (fun i σ' H5 => Same H4 H5 ∧ (∀ x y, x < i → y < S.n.toNat → off.getD y 0 ≤ off.getD x 0 + mat S.ws x y) ∧ ∃ o2 o3 : Option V, σ' = [some (.ref p), some (.ref a), o2, o3, none, none]) ⟨Same.refl _, fun x y hx => absurd hx (Nat.not_lt_zero _), none, none, rfl⟩ (fun i σ' H5 _ h5 => ⟨SqT.of (h5.1 _ _ hb4), SqT.of (h5.1 _ _ hwa4)⟩) ?_ ?_
            · rintro i x σ' H5 H6 hi ⟨s5, tr, o2, o3, rfl⟩ ⟨tp, x', y', rfl, np, rfl, e3, ey⟩
              obtain ⟨u, hu1, rfl⟩ := map_at e3
              obtain ⟨row, hrow, ra, rfl, hra⟩ := prd_at1 hwp ey
              have hrl := hwr row (List.mem_of_getElem? hrow)
              have s6 : Same H5 (upd H5 tp (.tup [.int u, .ref ra])) := same_new np
              have s46 := s5.trans s6
              refine ⟨tp, _, rfl, SqT.of upd_same, rfl, _, _, rfl, _, _, rfl, rfl, ?_⟩
              refine ⟨_, rfl, _, rfl, a, ra, _, _, rfl, .inr ⟨SqT.of (s46 _ _ hb4), SqT.of (s46 _ _ (q3 _ _ hra)), fun D2 nD2 => ?_⟩⟩
              refine lc_it (walk_zipT (n := S.n.toNat) (by rw [List.length_map, List.length_map]; omega)) (fun j H8 => ∃ cs, H8 D2 = some (.lst (cs.map V.bl)) ∧ Told (fun y => off.getD i 0 + mat S.ws i y < off.getD y 0) j cs ∧ Same (upd H5 tp (.tup [.int u, .ref ra])) H8) ⟨[], upd_same, .nil, same_new nD2⟩ (fun j H8 _ ⟨_, _, _, h8⟩ => ⟨SqT.of (h8 _ _ (s46 _ _ hb4)), SqT.of (h8 _ _ (s46 _ _ (q3 _ _ hra)))⟩) ?_ ?_
              · rintro j x H8 H9 hj ⟨cs, f1, f2, f3⟩ ⟨tp2, x2, y2, rfl, np2, rfl, g3, g4⟩
                obtain ⟨u2, hu2, rfl⟩ := map_at g3
                obtain ⟨w2, hw2, rfl⟩ := map_at g4
                have s9 : Same H8 (upd H8 tp2 (.tup [.int u2, .int w2])) := same_new np2
                refine ⟨tp2, _, rfl, SqT.of upd_same, rfl, _, _, rfl, _, _, rfl, rfl, rfl, ?_⟩
                refine yesT ?_
                refine ⟨_, rfl, _, rfl, _, rfl, _, _, rfl, rfl, _, _, rfl, rfl, ?_⟩
                refine ⟨_, s9 _ _ f1, ?_, cs ++ [decide (u + w2 < u2)], ?_, f2.snoc ?_, same_upd (f3.trans s9) nD2⟩
                · rw [List.length_map, f2.len]; exact small1000 (by omega)
                · rw [upd_same, bl_snoc]
                · rw [decide_eq_true_iff, getD_some hu1, getD_some hu2, mat_at hrow, getD_some hw2]
              · rintro H8 ⟨cs, f1, f2, f3⟩
                refine ⟨D2, _, rfl, SqL.of f1, ?_⟩
                refine ⟨_, rfl, ?_⟩
                have s48 := q3.trans (s46.trans f3)
                refine ite2 (fun g => ?_) (fun g => ?_)
                · refine k false _ s48 ⟨fun z => (nomatch z), fun h => ?_⟩
                  obtain ⟨y, hy, hlt⟩ := f2.any.mp g
                  have := (hiff.mp h).tri i y hi hy
                  omega
                · refine ⟨s46.trans f3, fun x y hx hy => ?_, _, _, rfl⟩
                  by_cases e : x < i
                  · exact tr x y e hy
                  · obtain rfl : x = i := by omega
                    exact le_not fun z => g (f2.any.mpr ⟨y, hy, z⟩)
            · rintro σ' H5 ⟨s5, tr, o2, o3, rfl⟩
              exact k true _ (q3.trans s5) ⟨fun _ => hiff.mpr ⟨hol, fun b hb => hnn b (by omega), hz, tr⟩, fun _ => rfl⟩
end
end Toy

namespace Toy
open PySem PySem.Spec PyProof.Rows L2
local macro_rules | `(tactic| walk_at "hp") => `(tactic| first
  | assumption
  | exact upd_same
  | (refine Eq.trans (upd_ne (by first | assumption | (apply Ne.symm; assumption))) ?_; walk_at "hp"))
local macro_rules | `(tactic| walk_at "side") => `(tactic| first
  | exact .inl ⟨by omega, by omega⟩
  | exact .inr ⟨by omega, by omega⟩
  | exact ⟨by omega, by omega⟩
  | (show _ ≤ _; omega)
  | (show (_ : Int) < _; omega)
  | decide
  | assumption)
local macro_rules | `(tactic| walk_at "r") => `(tactic| first
  | refine ⟨_, rfl, ?_⟩
  | refine ⟨_, _, rfl, rfl, ?_⟩
  | refine ⟨_, _, _, _, rfl, rfl, SqL.of (by walk_at "hp"), rfl, ?_⟩
  | refine ⟨_, _, _, _, rfl, rfl, SqT.of (by walk_at "hp"), rfl, ?_⟩
  | refine ⟨_, _, _, _, rfl, rfl, (by walk_at "hp"), rfl, ?_⟩
  | refine And.intro rfl ?_
  | refine ⟨_, _, rfl, SqT.of (by walk_at "hp"), ?_⟩
  | refine ⟨_, _, rfl, SqL.of (by walk_at "hp"), ?_⟩
  | refine .inl ⟨_, rfl, ?_⟩
  | refine ⟨_, _, rfl, .inl (SqL.of (by walk_at "hp")), ?_⟩
  | refine ⟨_, _, rfl, .inr (SqT.of (by walk_at "hp")), ?_⟩
  | refine ⟨_, _, rfl, .inl ⟨SqL.of (by walk_at "hp"), ?_⟩⟩
  | refine And.intro (.inl ⟨rfl, _, SqL.of (by walk_at "hp")⟩) ?_
  | refine ⟨_, _, _, rfl, rfl, (by walk_at "hp"), ?_⟩
  | refine ⟨_, _, rfl, (by walk_at "hp"), ?_⟩
  | refine And.intro (by walk_at "side") ?_)
local macro_rules | `(tactic| walk_at "rr") => `(tactic| (repeat walk_at "r"))
local macro_rules | `(tactic| walk_at "k") => `(tactic| first
  | refine ite2 (fun _ => ?_) (fun g => absurd rfl g)
  | refine ite2 (fun g => absurd g (by decide)) (fun _ => ?_)
  | refine ite2 (fun _ => ?_) (fun g => absurd (decide_eq_true (by omega)) g)
  | refine ite2 (fun g => absurd (of_decide_eq_true g) (by omega)) (fun _ => ?_)
  | refine ite2 (fun g => (nd_t g (by omega)).elim) (fun _ => ?_)
  | refine ite2 (fun _ => ?_) (fun g => absurd (nd_f g) (by omega)))
local macro_rules | `(tactic| walk_at "rk") => `(tactic| (repeat (first | walk_at "r" | walk_at "k")))
theorem ne_len {k : Nat} {n : Int} (g : (!decide (V.int k = V.int n)) = true) : (k : Int) ≠ n := by
  intro e
  rw [decide_eq_true (show V.int k = V.int n by rw [e])] at g
  cases g
theorem eq_len {k : Nat} {n : Int} (g : ¬ (!decide (V.int k = V.int n)) = true) : (k : Int) = n := by
  by_cases e : V.int k = V.int n
  · injection e
  · rw [decide_eq_false e] at g; exact absurd rfl g
theorem inV_int (k : Int) : ∀ off : List Int, inV (V.int k) (off.map V.int) = decide (k ∈ off)
  | [] => rfl
  | x :: t => by
    have ih := inV_int k t
    have hs : inV (V.int k) ((x :: t).map V.int) = (eqV (V.int x) (V.int k) || inV (V.int k) (t.map V.int)) := by
      first | rfl | simp [inV]
    rw [hs, ih]
    by_cases e : x = k
    · subst e; simp [eqV]
    · have e' : ¬ k = x := fun z => e z.symm
      simp [eqV, e, e']
def spAreOff (K : PySem.W.Frag) : Sp := fun vs H Q _ => ∃ (L : Addr) (M : Nat → Nat → Int) (n : Int) (ws : List (List Int)) (v : V), vs = [.ref L, v] ∧ LM H L n.toNat M ∧ (∀ i j, i < n.toNat → j < n.toNat → M i j = mat ws i j) ∧ 1 ≤ n ∧ n ≤ 6 ∧ Thg K H v ∧
  ∀ b H', Same H H' → (b = true ↔ OffIs n ws H v) → Q (.bl b) H'
section
variable {P : Program} {w : World} {K : PySem.W.Frag} {mg : Str → Option Value} {base : Heap}
end
end Toy

namespace Toy
open PySem PySem.Spec PyProof.Rows L2
local macro_rules | `(tactic| walk_at "hp") => `(tactic| first
  | assumption
  | exact upd_same
  | (refine Eq.trans (upd_ne (by first | assumption | (apply Ne.symm; assumption))) ?_; walk_at "hp"))
local macro_rules | `(tactic| walk_at "side") => `(tactic| first
  | exact .inl ⟨by omega, by omega⟩
  | exact .inr ⟨by omega, by omega⟩
  | exact ⟨by omega, by omega⟩
  | (show _ ≤ _; omega)
  | (show (_ : Int) < _; omega)
  | decide
  | assumption)
local macro_rules | `(tactic| walk_at "r") => `(tactic| first
  | refine ⟨_, rfl, ?_⟩
  | refine ⟨_, _, rfl, rfl, ?_⟩
  | refine ⟨_, _, _, _, rfl, rfl, SqL.of (by walk_at "hp"), rfl, ?_⟩
  | refine ⟨_, _, _, _, rfl, rfl, SqT.of (by walk_at "hp"), rfl, ?_⟩
  | refine ⟨_, _, _, _, rfl, rfl, (by walk_at "hp"), rfl, ?_⟩
  | refine And.intro rfl ?_
  | refine ⟨_, _, rfl, SqT.of (by walk_at "hp"), ?_⟩
  | refine ⟨_, _, rfl, SqL.of (by walk_at "hp"), ?_⟩
  | refine .inl ⟨_, rfl, ?_⟩
  | refine ⟨_, _, rfl, .inl (SqL.of (by walk_at "hp")), ?_⟩
  | refine ⟨_, _, rfl, .inr (SqT.of (by walk_at "hp")), ?_⟩
  | refine ⟨_, _, rfl, .inl ⟨SqL.of (by walk_at "hp"), ?_⟩⟩
  | refine And.intro (.inl ⟨rfl, _, SqL.of (by walk_at "hp")⟩) ?_
  | refine ⟨_, _, _, rfl, rfl, (by walk_at "hp"), ?_⟩
  | refine ⟨_, _, rfl, (by walk_at "hp"), ?_⟩
  | refine And.intro (by walk_at "side") ?_)
local macro_rules | `(tactic| walk_at "rr") => `(tactic| (repeat walk_at "r"))
local macro_rules | `(tactic| walk_at "k") => `(tactic| first
  | refine ite2 (fun _ => ?_) (fun g => absurd rfl g)
  | refine ite2 (fun g => absurd g (by decide)) (fun _ => ?_)
  | refine ite2 (fun _ => ?_) (fun g => absurd (decide_eq_true (by omega)) g)
  | refine ite2 (fun g => absurd (of_decide_eq_true g) (by omega)) (fun _ => ?_)
  | refine ite2 (fun g => (nd_t g (by omega)).elim) (fun _ => ?_)
  | refine ite2 (fun _ => ?_) (fun g => absurd (nd_f g) (by omega)))
local macro_rules | `(tactic| walk_at "rk") => `(tactic| (repeat (first | walk_at "r" | walk_at "k")))
def spOddV : Sp := fun vs H Q _ => ∃ (d c : Addr), vs = [.ref d] ∧ Dice c H d ∧ ∀ v H', OddV (fun a => H a = none) H' v → Keep d H H' → Dice c H' d → Q v H'
theorem same_none {H H' : Hp} {a : Addr} (k : Same H H') (h : H' a = none) : H a = none := by
  cases e : H a with
  | none => rfl
  | some o => rw [k _ _ e] at h; cases h
section
variable {P : Program} {w : World} {K : PySem.W.Frag} {mg : Str → Option Value} {base : Heap}
end
end Toy

namespace Toy
open PySem PySem.Spec PyProof.Rows L2
local macro_rules | `(tactic| walk_at "hp") => `(tactic| first
  | assumption
  | exact upd_same
  | (refine Eq.trans (upd_ne (by first | assumption | (apply Ne.symm; assumption))) ?_; walk_at "hp"))
local macro_rules | `(tactic| walk_at "side") => `(tactic| first
  | exact .inl ⟨by omega, by omega⟩
  | exact .inr ⟨by omega, by omega⟩
  | exact ⟨by omega, by omega⟩
  | (show _ ≤ _; omega)
  | (show (_ : Int) < _; omega)
  | decide
  | assumption)
local macro_rules | `(tactic| walk_at "r") => `(tactic| first
  | refine ⟨_, rfl, ?_⟩
  | refine ⟨_, _, rfl, rfl, ?_⟩
  | refine ⟨_, _, _, _, rfl, rfl, SqL.of (by walk_at "hp"), rfl, ?_⟩
  | refine ⟨_, _, _, _, rfl, rfl, SqT.of (by walk_at "hp"), rfl, ?_⟩
  | refine ⟨_, _, _, _, rfl, rfl, (by walk_at "hp"), rfl, ?_⟩
  | refine And.intro rfl ?_
  | refine ⟨_, _, rfl, SqT.of (by walk_at "hp"), ?_⟩
  | refine ⟨_, _, rfl, SqL.of (by walk_at "hp"), ?_⟩
  | refine .inl ⟨_, rfl, ?_⟩
  | refine ⟨_, _, rfl, .inl (SqL.of (by walk_at "hp")), ?_⟩
  | refine ⟨_, _, rfl, .inr (SqT.of (by walk_at "hp")), ?_⟩
  | refine ⟨_, _, rfl, .inl ⟨SqL.of (by walk_at "hp"), ?_⟩⟩
  | refine And.intro (.inl ⟨rfl, _, SqL.of (by walk_at "hp")⟩) ?_
  | refine ⟨_, _, _, rfl, rfl, (by walk_at "hp"), ?_⟩
  | refine ⟨_, _, rfl, (by walk_at "hp"), ?_⟩
  | refine And.intro (by walk_at "side") ?_)
local macro_rules | `(tactic| walk_at "rr") => `(tactic| (repeat walk_at "r"))
local macro_rules | `(tactic| walk_at "k") => `(tactic| first
  | refine ite2 (fun _ => ?_) (fun g => absurd rfl g)
  | refine ite2 (fun g => absurd g (by decide)) (fun _ => ?_)
  | refine ite2 (fun _ => ?_) (fun g => absurd (decide_eq_true (by omega)) g)
  | refine ite2 (fun g => absurd (of_decide_eq_true g) (by omega)) (fun _ => ?_)
  | refine ite2 (fun g => (nd_t g (by omega)).elim) (fun _ => ?_)
  | refine ite2 (fun _ => ?_) (fun g => absurd (nd_f g) (by omega)))
local macro_rules | `(tactic| walk_at "rk") => `(tactic| (repeat (first | walk_at "r" | walk_at "k")))
/-- a name that a dict of texts has -/
def isKn (kvs : List (Key × V)) : V → Bool
  | .str z => (valV kvs (.inr z : Key)).isSome
  | _ => false
theorem tyG_str {K : PySem.W.Frag} {H : Hp} {v : V} (h : TyG K H v "str") : ∃ z, v = .str z := tyN_str (tyG_blt h (by decide))
def spIsKnA (K : PySem.W.Frag) : Sp := fun vs H Q _ => ∃ (v : V) (n : String) (q : Addr), vs = [v, .ref q] ∧ TyG K H v n ∧ ((∃ kvs, H q = some (.dK kvs) ∧ Q (.bl (isKn kvs v)) H) ∨ ∃ zs : List Str, SqT K H q (zs.map V.str) ∧ Q (.bl (isOne zs v)) H)
def spSuited (CS CM : Addr) : Sp := fun vs H Q _ => ∃ (p m : Addr) (S : Sys) (M : Mc), vs = [.ref p, .ref m] ∧ SysAt CS H p S ∧ McAt CM H m M ∧ (∀ z ∈ M.ns, z ∈ S.rs.map (·.1)) ∧ Q .non H
def modes : List Str := ["none", "true", "free"]
def spMode (CS CM : Addr) : Sp := fun vs H Q _ => ∃ (p m : Addr) (S : Sys) (M : Mc) (mo : Str), vs = [.ref p, .ref m, .str mo] ∧ SysAt CS H p S ∧ McAt CM H m M ∧ (∀ z ∈ M.ns, z ∈ S.rs.map (·.1)) ∧ mo ∈ modes ∧ Q .non H
section
variable {P : Program} {w : World} {K : PySem.W.Frag} {mg : Str → Option Value} {base : Heap}
theorem ok_is_known (T : Top K mg) : Ok P w K mg base 1 "is_known" ["thing", "names"] (spIsKnA K) := by
  refine ok_of T.d_is_known sc_is_known (fun vs H Q E h => ?_) (fun f cdv A outer s H vs Q E hr h => ?_)
  · obtain ⟨v, n, q, rfl, _⟩ := h
    rfl
  · obtain ⟨v, n, q, rfl, hn, h⟩ := h
    have hu := hu_of hr
    refine ⟨_, (pss_one (ps_ret (pe_and (pe_callB (id := "isinstance") (call_isG (T := "str") (by simp [six])) (by rfl) T.b_isinstance (by decide +kernel) (pa_cons (pv 0) (pa_cons (pe_bltn (v := .ty "str") (u := .type "str") (by rfl) T.b_str (by decide +kernel) rfl) pa_nil))) (pe_one (pe_cmpR (op_or op_in_seq (op_in_dct hu)) (pv 0) (pv 1) rfl))))), ?_⟩
    refine ⟨_, rfl, _, n, rfl, hn, _, rfl, ?_⟩
    rw [isOf_str]
    refine ite2 (fun g => ?_) (fun g => ?_)
    · have hns : n = "str" := beq_iff_eq.mp g
      subst hns
      obtain ⟨z, rfl⟩ := tyG_str hn
      walk_at "rr"
      rcases h with ⟨kvs, hq, k⟩ | ⟨zs, hq, k⟩
      · exact .inr ⟨q, _, rfl, DGet.k (k := Sum.inr z) hq, k⟩
      · refine .inl ⟨q, zs.map V.str, rfl, .inr hq, rfl, flat_str _, ?_⟩
        show Q (.bl (inV (.str z) (zs.map V.str))) H
        rw [inV_str]; exact k
    · have hv : ∀ z, v ≠ .str z := fun z e => by
        subst e
        cases hn with
        | blt h => cases h; exact absurd rfl g
      rcases h with ⟨kvs, hq, k⟩ | ⟨zs, hq, k⟩
      · have hf : isKn kvs v = false := by
          cases v with
          | str z => exact absurd rfl (hv z)
          | _ => rfl
        rw [hf] at k
        exact k
      · have hf : isOne zs v = false := by
          cases v with
          | str z => exact absurd rfl (hv z)
          | _ => rfl
        rw [hf] at k
        exact k
theorem ok_check_suited (T : Top K mg) : Ok P w K mg base 1 "check_suited" ["system", "machine"] (spSuited T.c_System T.c_Machine) := by
  refine ok_of T.d_check_suited sc_check_suited (fun vs H Q E h => ?_) (fun f cdv A outer s H vs Q E hr h => ?_)
  · obtain ⟨p, m, S, M, rfl, _⟩ := h
    rfl
  · obtain ⟨p, m, S, M, rfl, SA, MA, sub, k⟩ := h
    obtain ⟨dx, mv, na, wv, q, kvs, hp, h2, h3, h4, hq, hR⟩ := SA.ex
    obtain ⟨dm, ta, nm, ds, hm, hT, hn⟩ := MA.ex
    refine ⟨_, (pss_one (ps_for PassesOwn.never rfl (pi_tup (pe_fld (pv 1) rfl)) (pg_name (i := 2) sc_check_suited.nd rfl (Or.inl rfl))
      (pss_one (ps_if (pt_cmpR op_notIn_seq (pv 2) (pe_fld (pv 0) rfl) rfl)
      (pss_one (ps_never))
      pss_nil)))), ?_⟩
    refine ⟨_, rfl, m, T.c_Machine, dm, _, _, rfl, hm, T.cl_Machine, T.na_Machine_names, mfs_names, nm, rfl, ⟨_, SqT.of hn⟩, ?_⟩
    refine for_tup (K := K) (a := nm) (xs := M.ns.map V.str) (fun j σ' G => G = H ∧ ∃ o, σ' = [some (.ref p), some (.ref m), o]) ⟨rfl, _, rfl⟩ (fun j σ' G _ e => SqT.of (by rw [e.1]; exact hn)) ?_ ?_
    · rintro j x σ' G hj ⟨rfl, o, rfl⟩
      obtain ⟨z, hz, rfl⟩ := map_at hj
      have hin := sub z (List.mem_of_getElem? hz)
      refine ⟨_, rfl, _, rfl, p, T.c_System, dx, _, _, rfl, hp, T.cl_System, T.na_System_names, sfs_names, na, _, rfl, .inr (SqT.of h3), rfl, flat_str _, _, rfl, ?_⟩
      refine ite2 (fun g => ?_) (fun _ => ⟨rfl, _, rfl⟩)
      have g : (!inV (.str z) ((S.rs.map (·.1)).map V.str)) = true := g
      rw [inV_str, decide_eq_true hin] at g
      cases g
    · rintro σ' G ⟨rfl, o, rfl⟩
      exact k
theorem ok_check_mode (T : Top K mg) : Ok P w K mg base 2 "check_mode" ["system", "machine", "mode"] (spMode T.c_System T.c_Machine) := by
  refine ok_of T.d_check_mode sc_check_mode (fun vs H Q E h => ?_) (fun f cdv A outer s H vs Q E hr h => ?_)
  · obtain ⟨p, m, S, M, mo, rfl, _⟩ := h
    rfl
  · obtain ⟨p, m, S, M, mo, rfl, SA, MA, sub, hmo, k⟩ := h
    obtain ⟨f_check_suited, fd_check_suited, m_check_suited, k_check_suited, b_check_suited, G_check_suited⟩ := ok_check_suited (P := P) (w := w) (base := base) T
    have hr_check_suited : Room 1 _ := hr.mono (by decide)
    obtain ⟨f_is_known, fd_is_known, m_is_known, k_is_known, b_is_known, G_is_known⟩ := ok_is_known (P := P) (w := w) (base := base) T
    have hr_is_known : Room 1 _ := hr.mono (by decide)
    refine ⟨_, (pss_cons (ps_expr (pe_call G_check_suited hr_check_suited rfl m_check_suited k_check_suited b_check_suited .nil pass0 (pa_cons (pv 0) (pa_cons (pv 1) pa_nil))))
      (pss_one (ps_if (pt_not (pt_val (pe_call G_is_known hr_is_known rfl m_is_known k_is_known b_is_known .nil pass0 (pa_cons (pv 2) (pa_cons (pe_glob (v := .ref T.c_MODES) rfl T.mg_MODES rfl) pa_nil)))))
      (pss_one (ps_never))
      pss_nil))), ?_⟩
    refine ⟨_, rfl, _, rfl, p, m, S, M, rfl, SA, MA, sub, ?_⟩
    refine ⟨_, rfl, .str mo, "str", T.c_MODES, rfl, .blt rfl, .inr ⟨modes, T.tp_MODES H, _, rfl, ?_⟩⟩
    refine ite2 (fun g => ?_) (fun _ => k)
    rw [show isOne modes (.str mo) = true from decide_eq_true hmo] at g
    cases g
theorem ok__is_turn (T : Top K mg) : Ok P w K mg base 4 "_is_turn" ["thing", "states"] spIsTurn := by
  refine ok_of T.d__is_turn sc__is_turn (fun vs H Q E h => ?_) (fun f cdv A outer s H vs Q E hr h => ?_)
  · obtain ⟨d, r, n, rfl, _⟩ := h
    rfl
  · obtain ⟨d, r, n, rfl, hd, lo, hi, nd, hP, k⟩ := h
    obtain ⟨f_is_below, fd_is_below, m_is_below, k_is_below, b_is_below, G_is_below⟩ := ok_is_below (P := P) (w := w) (base := base) T
    have hr_is_below : Room 3 _ := hr.mono (by decide)
    obtain ⟨f_is_name, fd_is_name, m_is_name, k_is_name, b_is_name, G_is_name⟩ := ok_is_name (P := P) (w := w) (base := base) T
    have hr_is_name : Room 1 _ := hr.mono (by decide)
    have hu := hu_of hr
    refine ⟨_, (pss_cons (ps_if (PW.pt (pw_or (pt_not (pt_val (pe_callB (id := "isinstance") (call_isN (T := "dict")) (by rfl) T.b_isinstance (by decide +kernel) (pa_cons (pv 0) (pa_cons (pe_bltn (v := .ty "dict") (u := .type "dict") (by rfl) T.b_dict (by decide +kernel) rfl) pa_nil))))) (pw_or1 (pt_cmpR op_eq (pe_callB (id := "len") call_lenD (by rfl) T.b_len (by decide +kernel) (pa_cons (pv 0) pa_nil)) pe_int (nomark _)))))
      (pss_one (ps_ret pe_bl))
      pss_nil)
      (pss_one (ps_ret (pe_callB (id := "all") (cr_all rfl) (by rfl) T.b_all (by decide +kernel) (pa_cons (pe_lock (pe_lc (own := [("name", 2)]) (g := gName 2) rfl sc__is_turn.nd (pi_keys (pv 0)) (blkOk_by (own := [("name", 2)]) (N := ["thing", "states", "name"]) (sc := defScope s__is_turn) (by decide +kernel)) (fun _ _ _ _ _ => (pg_name (i := 2) sc__is_turn.nd rfl (Or.inl rfl))) (fun _ _ _ _ _ => pts_nil) (fun _ _ _ _ _ => (pe_and (pe_call G_is_name hr_is_name rfl m_is_name k_is_name b_is_name .nil pass0 (pa_cons (pv 2) pa_nil)) (pe_one (pe_call G_is_below hr_is_below rfl m_is_below k_is_below b_is_below .nil pass0 (pa_cons (pe_dget hu (pv 0) (pv 2) (fun _ _ => rfl)) (pa_cons (pv 1) pa_nil)))))))) pa_nil))))), ?_⟩
    refine ⟨_, rfl, _, "dict", _, rfl, ty_dK hd, kit7 (ty_dK hd) (by simp), _, rfl, ?_⟩
    refine ite2 (fun g => nomatch g) (fun _ => ?_)
    refine ⟨_, rfl, d, _, rfl, hd, rfl, _, rfl, ?_⟩
    refine ite2 (fun g => ?_) (fun _ => ?_)
    · have g := of_decide_eq_true g
      injection g with g
      rw [tkv_len] at g
      omega
    refine ⟨d, _, hd, True.intro, fun od => ?_⟩
    refine ⟨_, rfl, d, od, rfl, .inl ⟨tkv r, upd_same, fun D nD => ?_⟩⟩
    have nDd : D ≠ d := fun q => by subst q; rw [upd_same] at nD; cases nD
    have nDH : H D = none := by rw [upd_ne nDd] at nD; exact nD
    refine lc_it walk_keys (fun i H2 => H2 D = some (.lst ((List.replicate i true).map V.bl)) ∧ Same (upd H d (.frz od (.dK (tkv r)))) H2) ⟨upd_same, same_new nD⟩ (fun i H2 _ h2 => h2.2 _ _ upd_same) ?_ ?_
    · rintro i x H2 H3 hi ⟨q1, q2⟩ ⟨rfl, ky, v, hkv, rfl⟩
      obtain ⟨pr, hpr, rfl, rfl⟩ := tkv_at hkv
      have m := List.mem_of_getElem? hpr
      obtain ⟨p1, p2, p3⟩ := hP pr m
      refine ⟨rfl, ?_⟩
      refine yesT ?_
      refine ⟨_, rfl, .str pr.1, "str", rfl, rfl, (fun y e => by cases e; have h8 : (pr.1.length : Int) ≤ 8 := p1.hi; exact Nat.le_of_lt (small1000 (by omega))), fun H4 s4 => ?_⟩
      rw [nm_of p1]
      refine ⟨true, rfl, ?_⟩
      walk_at "k"
      refine ⟨_, rfl, _, rfl, d, .int pr.2, rfl, .inl ⟨tkv r, .inr pr.1, .inr ⟨od, s4 _ _ (q2 _ _ upd_same)⟩, rfl, (tkv_val nd m).symm⟩, ?_⟩
      refine ⟨_, rfl, .int pr.2, "int", n, rfl, rfl, ?_⟩
      rw [below_int p2 p3]
      refine ⟨_, s4 _ _ q1, ?_, ?_, same_upd (q2.trans s4) nD⟩
      · rw [List.length_map, List.length_replicate]
        have : i < (tkv r).length := hi
        rw [tkv_len] at this
        exact small1000 (by omega)
      · rw [upd_same, rep_snoc]
    · rintro H2 ⟨q1, q2⟩
      have hd2 := q2 _ _ upd_same
      refine ⟨hd2, D, List.replicate (tkv r).length true, rfl, SqL.of ((upd_ne nDd).trans q1), ?_⟩
      rw [rep_all]
      refine k _ fun b o e => ?_
      by_cases eb : b = d
      · subst eb; rw [upd_same, ← e, hd]
      · rw [upd_ne eb]
        exact q2 b o (by rw [upd_ne eb]; exact e)
theorem ok__is_turns (T : Top K mg) : Ok P w K mg base 5 "_is_turns" ["thing"] spIsTurns := by
  refine ok_of T.d__is_turns sc__is_turns (fun vs H Q E h => ?_) (fun f cdv A outer s H vs Q E hr h => ?_)
  · obtain ⟨ta, ds, ts, rfl, _⟩ := h
    rfl
  · obtain ⟨ta, ds, ts, rfl, hT, hts, k⟩ := h
    obtain ⟨t_MOST_STATES, g_MOST_STATES⟩ := T.g_MOST_STATES
    obtain ⟨f__is_turn, fd__is_turn, m__is_turn, k__is_turn, b__is_turn, G__is_turn⟩ := ok__is_turn (P := P) (w := w) (base := base) T
    have hr__is_turn : Room 4 _ := hr.mono (by decide)
    have lo := hts.lo
    have hi := hts.hi
    have len : ds.length = ts.length := Paired.length hT.each
    have lenr : (ds.map V.ref).length = ts.length := by rw [List.length_map]; exact len
    refine ⟨_, (pss_cons (ps_if (PW.pt (pw_or (pt_not (pt_val (pe_callB (id := "isinstance") (call_isN (T := "tuple")) (by rfl) T.b_isinstance (by decide +kernel) (pa_cons (pv 0) (pa_cons (pe_bltn (v := .ty "tuple") (u := .type "tuple") (by rfl) T.b_tuple (by decide +kernel) rfl) pa_nil))))) (pw_or1 (pt_not (pt_chain op_le op_le pe_int (pe_callB (id := "len") call_len_seq (by rfl) T.b_len (by decide +kernel) (pa_cons (pv 0) pa_nil)) (pe_glob (v := .int 4) rfl g_MOST_STATES ⟨_, rfl⟩))))))
      (pss_one (ps_ret pe_bl))
      pss_nil)
      (pss_one (ps_ret (pe_callB (id := "all") (cr_all rfl) (by rfl) T.b_all (by decide +kernel) (pa_cons (pe_lc (own := [("turn", 1)]) (g := gName 1) rfl sc__is_turns.nd (pi_tup (pv 0)) (blkOk_by (own := [("turn", 1)]) (N := ["thing", "turn"]) (sc := defScope s__is_turns) (by decide +kernel)) (fun _ _ _ _ _ => (pg_name (i := 1) sc__is_turns.nd rfl (Or.inl rfl))) (fun _ _ _ _ _ => pts_nil) (fun _ _ _ _ _ => (pe_call G__is_turn hr__is_turn rfl m__is_turn k__is_turn b__is_turn .nil pass0 (pa_cons (pv 1) (pa_cons (pe_callB (id := "len") (call_len_seq : CallR _ _ (rLenSeq K)) (by rfl) T.b_len (by decide +kernel) (pa_cons (pv 0) pa_nil)) pa_nil))))) pa_nil))))), ?_⟩
    refine ⟨_, rfl, _, "tuple", _, rfl, ty_tup hT.tup, kit7 (ty_tup hT.tup) (by simp), _, rfl, ?_⟩
    refine ite2 (fun g => nomatch g) (fun _ => ?_)
    refine ⟨_, rfl, ta, _, rfl, .inr (SqT.of hT.tup), ?_⟩
    rw [lenr]
    walk_at "rk"
    refine ⟨⟨_, SqT.of hT.tup⟩, fun D nD => ?_⟩
    refine lc_tup (K := K) (a := ta) (xs := ds.map V.ref) (fun j G => G D = some (.lst ((List.replicate j true).map V.bl)) ∧ Same H G) ⟨upd_same, same_new nD⟩ (fun j G _ h => SqT.of (h.2 _ _ hT.tup)) ?_ ?_
    · rintro j x G hj ⟨q1, q2⟩
      obtain ⟨d, hd, rfl⟩ := map_at hj
      obtain ⟨r, hr, ed⟩ := prd_at1 hT.each hd
      obtain ⟨a1, a2, a3, a4⟩ := hts.row r (List.mem_of_getElem? hr)
      refine ⟨rfl, ?_⟩
      refine yesT ?_
      refine ⟨_, rfl, _, rfl, ta, _, rfl, .inr (SqT.of (q2 _ _ hT.tup)), d, r, _, rfl, q2 _ _ ed, a1, a2, a3, fun p m => ⟨(a4 p m).1, (a4 p m).2.1, by rw [lenr]; exact (a4 p m).2.2⟩, fun G2 s2 => ?_⟩
      refine ⟨_, s2 _ _ q1, ?_, ?_, same_upd (q2.trans s2) nD⟩
      · rw [List.length_map, List.length_replicate]
        have := (List.getElem?_eq_some_iff.mp hj).1
        exact small1000 (by omega)
      · rw [upd_same, rep_snoc]
    · rintro G ⟨q1, q2⟩
      refine ⟨D, _, rfl, SqL.of q1, ?_⟩
      rw [rep_all]
      exact k _ q2
end
end Toy

namespace Toy
open PySem PySem.Spec PyProof.Rows L2
local macro_rules | `(tactic| walk_at "hp") => `(tactic| first
  | assumption
  | exact upd_same
  | (refine Eq.trans (upd_ne (by first | assumption | (apply Ne.symm; assumption))) ?_; walk_at "hp"))
local macro_rules | `(tactic| walk_at "side") => `(tactic| first
  | exact .inl ⟨by omega, by omega⟩
  | exact .inr ⟨by omega, by omega⟩
  | exact ⟨by omega, by omega⟩
  | (show _ ≤ _; omega)
  | (show (_ : Int) < _; omega)
  | decide
  | assumption)
local macro_rules | `(tactic| walk_at "r") => `(tactic| first
  | refine ⟨_, rfl, ?_⟩
  | refine ⟨_, _, rfl, rfl, ?_⟩
  | refine ⟨_, _, _, _, rfl, rfl, SqL.of (by walk_at "hp"), rfl, ?_⟩
  | refine ⟨_, _, _, _, rfl, rfl, SqT.of (by walk_at "hp"), rfl, ?_⟩
  | refine ⟨_, _, _, _, rfl, rfl, (by walk_at "hp"), rfl, ?_⟩
  | refine And.intro rfl ?_
  | refine ⟨_, _, rfl, SqT.of (by walk_at "hp"), ?_⟩
  | refine ⟨_, _, rfl, SqL.of (by walk_at "hp"), ?_⟩
  | refine .inl ⟨_, rfl, ?_⟩
  | refine ⟨_, _, rfl, .inl (SqL.of (by walk_at "hp")), ?_⟩
  | refine ⟨_, _, rfl, .inr (SqT.of (by walk_at "hp")), ?_⟩
  | refine ⟨_, _, rfl, .inl ⟨SqL.of (by walk_at "hp"), ?_⟩⟩
  | refine And.intro (.inl ⟨rfl, _, SqL.of (by walk_at "hp")⟩) ?_
  | refine ⟨_, _, _, rfl, rfl, (by walk_at "hp"), ?_⟩
  | refine ⟨_, _, rfl, (by walk_at "hp"), ?_⟩
  | refine And.intro (by walk_at "side") ?_)
local macro_rules | `(tactic| walk_at "rr") => `(tactic| (repeat walk_at "r"))
local macro_rules | `(tactic| walk_at "k") => `(tactic| first
  | refine ite2 (fun _ => ?_) (fun g => absurd rfl g)
  | refine ite2 (fun g => absurd g (by decide)) (fun _ => ?_)
  | refine ite2 (fun _ => ?_) (fun g => absurd (decide_eq_true (by omega)) g)
  | refine ite2 (fun g => absurd (of_decide_eq_true g) (by omega)) (fun _ => ?_)
  | refine ite2 (fun g => (nd_t g (by omega)).elim) (fun _ => ?_)
  | refine ite2 (fun _ => ?_) (fun g => absurd (nd_f g) (by omega)))
local macro_rules | `(tactic| walk_at "rk") => `(tactic| (repeat (first | walk_at "r" | walk_at "k")))
theorem TurnsAt.keep {p : Addr} {H G : Hp} {ta : Addr} {ds : List Addr} {ts : List (List (Str × Int))} (t : TurnsAt H ta ds ts) {C dx : Addr} {fs : List (Str × V)} (hp : H p = some (.ins C dx fs)) (k : Keep p H G) : TurnsAt G ta ds ts := by
  refine ⟨k _ _ (ne_of t.tup hp (by intro z; cases z)) t.tup, t.nd, paired_snoc_at t.each fun d m o e => k _ _ (fun z => ?_) e⟩
  subst z
  obtain ⟨i, hi⟩ := List.getElem?_of_mem m
  obtain ⟨r, _, e2⟩ := prd_at1 t.each hi
  rw [hp] at e2; cases e2
/-- copies of the dicts of some turns -/
structure Copied (H G : Hp) (D : Addr) (es : List Addr) (ts : List (List (Str × Int))) : Prop where
  lst : G D = some (.lst (es.map V.ref))
  each : Paired (fun d r => G d = some (.dK (tkv r))) es ts
  nd : es.Nodup
  new : ∀ e ∈ es, H e = none ∧ e ≠ D
  same : Same H G
theorem Copied.more {H G : Hp} {D : Addr} {es : List Addr} {ts : List (List (Str × Int))} {i : Nat} {r : List (Str × Int)} (c : Copied H G D es (ts.take i)) (hr : ts[i]? = some r) {e : Addr} (ne : G e = none) (nD : H D = none) :
    Copied H (upd (upd G e (.dK (tkv r))) D (.lst (es.map V.ref ++ [.ref e]))) D (es ++ [e]) (ts.take (i + 1)) := by
  have eD : D ≠ e := ne_of_none c.lst ne
  refine ⟨?_, ?_, ?_, ?_, same_upd (same_upd c.same (c.same.free ne)) nD⟩
  · rw [upd_same, List.map_append]; rfl
  · rw [List.take_add_one, hr]
    refine Paired.snoc (paired_snoc_at c.each fun d m o h => ?_) ?_
    · have d1 : d ≠ e := ne_of_none h ne
      rw [upd_ne (c.new d m).2, upd_ne d1]; exact h
    · rw [upd_ne eD.symm, upd_same]
  · rw [List.nodup_append]
    refine ⟨c.nd, by simp, fun a m b mb => ?_⟩
    rw [List.mem_singleton.mp mb]
    intro z
    subst z
    obtain ⟨j, hj⟩ := List.getElem?_of_mem m
    obtain ⟨r2, _, h2⟩ := prd_at1 c.each hj
    rw [ne] at h2; cases h2
  · intro d m
    rcases List.mem_append.mp m with m | m
    · exact c.new d m
    · rw [List.mem_singleton.mp m]
      exact ⟨c.same.free ne, eD.symm⟩
section
variable {P : Program} {w : World} {K : PySem.W.Frag} {mg : Str → Option Value} {base : Heap}
theorem ok_MachineZ_initZ (T : Top K mg) : OkI P w K mg base CX0 6 "Machine" T.c_Machine ["self", "turns"] (spMachine T.c_Machine) := by
  refine okI_of T.mg_Machine T.i_Machine sc_MachineZ_initZ (fun vs H Q E h => ?_) (fun f cdv A outer s H vs Q E hr h => ?_)
  · obtain ⟨p, dx, ta, ds, ts, rfl, _⟩ := h
    rfl
  · obtain ⟨p, dx, ta, ds, ts, rfl, hp, hT, hts, k⟩ := h
    obtain ⟨f__is_turns, fd__is_turns, m__is_turns, k__is_turns, b__is_turns, G__is_turns⟩ := ok__is_turns (P := P) (w := w) (base := base) T
    have hr__is_turns : Room 5 _ := hr.mono (by decide)
    have len : ds.length = ts.length := Paired.length hT.each
    have hi := hts.hi
    refine ⟨_, (pss_cons (ps_if (pt_not (pt_val (pe_call G__is_turns hr__is_turns rfl m__is_turns k__is_turns b__is_turns .nil pass0 (pa_cons (pv 1) pa_nil))))
      (pss_one (ps_never))
      pss_nil)
      (pss_cons (ps_fld (pv 0) (pe_callTy (T := "tuple") call_tuple_of (by rfl) T.b_tuple (by decide +kernel) (pa_cons (pe_lc (own := [("turn", 2)]) (g := gName 2) rfl sc_MachineZ_initZ.nd (pi_tup (pv 1)) (blkOk_by (own := [("turn", 2)]) (N := ["self", "turns", "turn", "name"]) (sc := defScope s_MachineZ_initZ) (by decide +kernel)) (fun _ _ _ _ _ => (pg_name (i := 2) sc_MachineZ_initZ.nd rfl (Or.inl rfl))) (fun _ _ _ _ _ => pts_nil) (fun _ _ _ _ _ => (pe_callTy (T := "dict") call_dictD (by rfl) T.b_dict (by decide +kernel) (pa_cons (pv 2) pa_nil)))) pa_nil)) rfl)
      (pss_cons (ps_fld (pv 0) (pe_callB (id := "len") call_len_seq (by rfl) T.b_len (by decide +kernel) (pa_cons (pv 1) pa_nil)) rfl)
      (pss_one (ps_fld (pv 0) (pe_callTy (T := "tuple") call_tuple_of (by rfl) T.b_tuple (by decide +kernel) (pa_cons (pe_callB (id := "sorted") (cr_sortedTx rfl) (by rfl) T.b_sorted (by decide +kernel) (pa_cons (pe_locks (pe_sc2 (own := [("turn", 2), ("name", 3)]) (vs1 := [3]) rfl sc_MachineZ_initZ.nd (pi_tup (pv 1)) (blkOk_by (own := [("turn", 2), ("name", 3)]) (N := ["self", "turns", "turn", "name"]) (sc := defScope s_MachineZ_initZ) (by decide +kernel)) (by decide) (fun _ _ _ _ _ => (pg_name (i := 2) sc_MachineZ_initZ.nd rfl (Or.inl rfl))) (fun _ _ _ _ _ => (pi_keys (pv 2))) (fun _ _ _ _ _ => (pg_name (i := 3) sc_MachineZ_initZ.nd rfl (Or.inl rfl))) (fun _ _ _ _ _ => (pv 3)))) pa_nil)) pa_nil)) rfl))))), ?_⟩
    refine ⟨_, rfl, ta, ds, ts, rfl, hT, hts, fun H1 s1 => ⟨_, rfl, ?_⟩⟩
    refine ite2 (fun g => nomatch g) (fun _ => ?_)
    have T1 := hT.same s1
    have hp1 := s1 _ _ hp
    refine ⟨_, rfl, ta, rfl, ⟨_, SqT.of T1.tup⟩, fun D nD => ?_⟩
    refine lc_tup (K := K) (a := ta) (xs := ds.map V.ref) (fun j G => ∃ es, Copied H1 G D es (ts.take j)) ⟨[], upd_same, .nil, .nil, by simp, same_new nD⟩ (fun j G _ ⟨es, c⟩ => SqT.of (c.same _ _ T1.tup)) ?_ ?_
    · rintro j x G hj ⟨es, c⟩
      obtain ⟨d, hd, rfl⟩ := map_at hj
      obtain ⟨r, hr', ed⟩ := prd_at1 T1.each hd
      refine ⟨rfl, ?_⟩
      refine yesT ?_
      refine ⟨_, rfl, d, tkv r, rfl, .inl (c.same _ _ ed), fun e ne => ?_⟩
      have eD : D ≠ e := ne_of_none c.lst ne
      refine ⟨_, (upd_ne eD).trans c.lst, ?_, _, c.more hr' ne nD⟩
      rw [List.length_map, Paired.length c.each, List.length_take]
      exact small1000 (by omega)
    · rintro G ⟨es, c⟩
      rw [List.length_map, len, List.take_length] at c
      refine ⟨D, _, rfl, .inl ⟨SqL.of c.lst, fun t nt => ?_⟩⟩
      have t1 : Same H1 (upd G t (.tup (es.map V.ref))) := same_upd c.same (c.same.free nt)
      have T2 : TurnsAt (upd G t (.tup (es.map V.ref))) t es ts := ⟨upd_same, c.nd, paired_snoc_at c.each fun d _ o h => by rw [upd_ne (ne_of_none h nt)]; exact h⟩
      generalize upd G t (.tup (es.map V.ref)) = H2 at *
      have hp2 := t1 _ _ hp1
      refine ⟨_, rfl, p, T.c_Machine, dx, _, rfl, hp2, T.cl_Machine, T.na_Machine__turns, (by show 0 < 1000; decide), ?_⟩
      have k2 : Keep p H2 (upd H2 p (.ins T.c_Machine dx (putF "_turns" (.ref t) []))) := Keep.upd
      have p3 : (upd H2 p (.ins T.c_Machine dx (putF "_turns" (.ref t) []))) p = some (.ins T.c_Machine dx (putF "_turns" (.ref t) [])) := upd_same
      generalize upd H2 p (.ins T.c_Machine dx (putF "_turns" (.ref t) [])) = H3 at *
      have A3 := ((hT.same s1).same t1).keep hp2 k2
      refine ⟨_, rfl, ta, _, rfl, .inr (SqT.of A3.tup), ?_⟩
      rw [List.length_map, len]
      have f1 : (putF "_turns" (V.ref t) []).length ≤ 1 := putF_len "_turns" (V.ref t) []
      refine ⟨_, rfl, p, T.c_Machine, dx, _, rfl, p3, T.cl_Machine, T.na_Machine_states, by omega, ?_⟩
      have k3 : Keep p H3 (upd H3 p (.ins T.c_Machine dx (putF "states" (.int ts.length) (putF "_turns" (.ref t) [])))) := Keep.upd
      have p4 : (upd H3 p (.ins T.c_Machine dx (putF "states" (.int ts.length) (putF "_turns" (.ref t) [])))) p = some (.ins T.c_Machine dx (putF "states" (.int ts.length) (putF "_turns" (.ref t) []))) := upd_same
      generalize upd H3 p (.ins T.c_Machine dx (putF "states" (.int ts.length) (putF "_turns" (.ref t) []))) = H4 at *
      have A4 := A3.keep p3 k3
      have few := hts.few
      refine ⟨ds.length, keys_set (P := P) (w := w) (a := 1) (i := 2) (j := 3) rfl A4 (by omega) (by show 2 < 4; decide) (by show 3 < 4; decide) (by decide) fun D2 zs nD2 mem le => ?_⟩
      refine ⟨D2, zs, rfl, upd_same, by omega, fun ys q nd srt mem2 nq => ?_⟩
      have s5 : Same H4 (upd (upd H4 D2 (TxO P w D2 zs)) q (.lst (ys.map V.str))) := same_upd (same_new nD2) (by
        cases e : H4 q with
        | none => rfl
        | some o => rw [same_new nD2 _ _ e] at nq; cases nq)
      have q5 : (upd (upd H4 D2 (TxO P w D2 zs)) q (.lst (ys.map V.str))) q = some (.lst (ys.map V.str)) := upd_same
      generalize upd (upd H4 D2 (TxO P w D2 zs)) q (.lst (ys.map V.str)) = H5 at *
      refine ⟨q, _, rfl, .inl ⟨SqL.of q5, fun t2 nt2 => ?_⟩⟩
      have s6 : Same H5 (upd H5 t2 (.tup (ys.map V.str))) := same_new nt2
      have q6 : (upd H5 t2 (.tup (ys.map V.str))) t2 = some (.tup (ys.map V.str)) := upd_same
      generalize upd H5 t2 (.tup (ys.map V.str)) = H6 at *
      have p6 := s6 _ _ (s5 _ _ p4)
      have f3 := putF_len "states" (.int ts.length) (putF "_turns" (.ref t) [])
      refine ⟨_, rfl, p, T.c_Machine, dx, _, rfl, p6, T.cl_Machine, T.na_Machine_names, by omega, ?_⟩
      have T6 := (((T2.keep hp2 k2).keep p3 k3).same s5).same s6
      refine k ⟨ts, ys⟩ _ ⟨hts, srt, nd, fun z => (mem2 z).trans (mem z)⟩ rfl ⟨⟨dx, t, t2, es, upd_same, T6.keep p6 Keep.upd, (upd_ne (ne_of q6 p6 (by intro z; cases z))).trans q6⟩⟩ fun b o nb e => ?_
      rw [upd_ne nb]
      exact s6 _ _ (s5 _ _ (k3 _ _ nb (k2 _ _ nb (t1 _ _ (s1 _ _ e)))))
theorem ok_Machine_turns (T : Top K mg) : OkP P w K mg base 1 T.c_Machine "turns" (spTurnsP T.c_Machine) := by
  refine okP_of T.p_Machine_turns sc_Machine_turns (fun vs H Q E h => ?_) (fun f cdv A outer s H vs Q E hr h => ?_)
  · obtain ⟨p, M, rfl, _⟩ := h
    rfl
  · obtain ⟨p, M, rfl, MA, ok, k⟩ := h
    obtain ⟨dm, ta, nm, ds, hm, hT, hn⟩ := MA.ex
    have len : ds.length = M.ts.length := Paired.length hT.each
    have hi := ok.ts.hi
    refine ⟨_, (pss_one (ps_ret (pe_callTy (T := "tuple") call_tuple_of (by rfl) T.b_tuple (by decide +kernel) (pa_cons (pe_lc (own := [("turn", 1)]) (g := gName 1) rfl sc_Machine_turns.nd (pi_tup (pe_fld (pv 0) rfl)) (blkOk_by (own := [("turn", 1)]) (N := ["self", "turn"]) (sc := defScope s_Machine_turns) (by decide +kernel)) (fun _ _ _ _ _ => (pg_name (i := 1) sc_Machine_turns.nd rfl (Or.inl rfl))) (fun _ _ _ _ _ => pts_nil) (fun _ _ _ _ _ => (pe_callTy (T := "dict") call_dictD (by rfl) T.b_dict (by decide +kernel) (pa_cons (pv 1) pa_nil)))) pa_nil)))), ?_⟩
    refine ⟨_, rfl, p, T.c_Machine, dm, _, _, rfl, hm, T.cl_Machine, T.na_Machine__turns, mfs_turns, ta, rfl, ⟨_, SqT.of hT.tup⟩, fun D nD => ?_⟩
    refine lc_tup (K := K) (a := ta) (xs := ds.map V.ref) (fun j G => ∃ es, Copied H G D es (M.ts.take j)) ⟨[], upd_same, .nil, .nil, by simp, same_new nD⟩ (fun j G _ ⟨es, c⟩ => SqT.of (c.same _ _ hT.tup)) ?_ ?_
    · rintro j x G hj ⟨es, c⟩
      obtain ⟨d, hd, rfl⟩ := map_at hj
      obtain ⟨r, hr', ed⟩ := prd_at1 hT.each hd
      refine ⟨rfl, ?_⟩
      refine yesT ?_
      refine ⟨_, rfl, d, tkv r, rfl, .inl (c.same _ _ ed), fun e ne => ?_⟩
      have eD : D ≠ e := ne_of_none c.lst ne
      refine ⟨_, (upd_ne eD).trans c.lst, ?_, _, c.more hr' ne nD⟩
      rw [List.length_map, Paired.length c.each, List.length_take]
      exact small1000 (by omega)
    · rintro G ⟨es, c⟩
      rw [List.length_map, len, List.take_length] at c
      refine ⟨D, _, rfl, .inl ⟨SqL.of c.lst, fun t nt => ?_⟩⟩
      refine k t es _ (same_upd c.same (c.same.free nt)) ⟨upd_same, c.nd, paired_snoc_at c.each fun d _ o h => by rw [upd_ne (ne_of_none h nt)]; exact h⟩ fun d m => (c.new d m).1
end
end Toy

namespace Toy
open PySem PySem.Spec PyProof.Rows L2
local macro_rules | `(tactic| walk_at "hp") => `(tactic| first
  | assumption
  | exact upd_same
  | (refine Eq.trans (upd_ne (by first | assumption | (apply Ne.symm; assumption))) ?_; walk_at "hp"))
local macro_rules | `(tactic| walk_at "side") => `(tactic| first
  | exact .inl ⟨by omega, by omega⟩
  | exact .inr ⟨by omega, by omega⟩
  | exact ⟨by omega, by omega⟩
  | (show _ ≤ _; omega)
  | (show (_ : Int) < _; omega)
  | decide
  | assumption)
local macro_rules | `(tactic| walk_at "r") => `(tactic| first
  | refine ⟨_, rfl, ?_⟩
  | refine ⟨_, _, rfl, rfl, ?_⟩
  | refine ⟨_, _, _, _, rfl, rfl, SqL.of (by walk_at "hp"), rfl, ?_⟩
  | refine ⟨_, _, _, _, rfl, rfl, SqT.of (by walk_at "hp"), rfl, ?_⟩
  | refine ⟨_, _, _, _, rfl, rfl, (by walk_at "hp"), rfl, ?_⟩
  | refine And.intro rfl ?_
  | refine ⟨_, _, rfl, SqT.of (by walk_at "hp"), ?_⟩
  | refine ⟨_, _, rfl, SqL.of (by walk_at "hp"), ?_⟩
  | refine .inl ⟨_, rfl, ?_⟩
  | refine ⟨_, _, rfl, .inl (SqL.of (by walk_at "hp")), ?_⟩
  | refine ⟨_, _, rfl, .inr (SqT.of (by walk_at "hp")), ?_⟩
  | refine ⟨_, _, rfl, .inl ⟨SqL.of (by walk_at "hp"), ?_⟩⟩
  | refine And.intro (.inl ⟨rfl, _, SqL.of (by walk_at "hp")⟩) ?_
  | refine ⟨_, _, _, rfl, rfl, (by walk_at "hp"), ?_⟩
  | refine ⟨_, _, rfl, (by walk_at "hp"), ?_⟩
  | refine And.intro (by walk_at "side") ?_)
local macro_rules | `(tactic| walk_at "rr") => `(tactic| (repeat walk_at "r"))
local macro_rules | `(tactic| walk_at "k") => `(tactic| first
  | refine ite2 (fun _ => ?_) (fun g => absurd rfl g)
  | refine ite2 (fun g => absurd g (by decide)) (fun _ => ?_)
  | refine ite2 (fun _ => ?_) (fun g => absurd (decide_eq_true (by omega)) g)
  | refine ite2 (fun g => absurd (of_decide_eq_true g) (by omega)) (fun _ => ?_)
  | refine ite2 (fun g => (nd_t g (by omega)).elim) (fun _ => ?_)
  | refine ite2 (fun _ => ?_) (fun g => absurd (nd_f g) (by omega)))
local macro_rules | `(tactic| walk_at "rk") => `(tactic| (repeat (first | walk_at "r" | walk_at "k")))
/-- a Steps' attributes -/
def stf (p : Addr) (mo : Str) (ta r : Addr) : List (Str × V) := putF "_risen" (.ref r) (putF "_turns" (.ref ta) (putF "mode" (.str mo) (putF "system" (.ref p) [])))
section
variable {p ta r : Addr} {mo : Str}
theorem stf_system : (stf p mo ta r).lookup ("system" : Str) = some (.ref p) := by unfold stf; rw [lookup_putF, if_neg (by decide +kernel), lookup_putF, if_neg (by decide +kernel), lookup_putF, if_neg (by decide +kernel), lookup_putF, if_pos rfl]
theorem stf_mode : (stf p mo ta r).lookup ("mode" : Str) = some (.str mo) := by unfold stf; rw [lookup_putF, if_neg (by decide +kernel), lookup_putF, if_neg (by decide +kernel), lookup_putF, if_pos rfl]
theorem stf_turns : (stf p mo ta r).lookup ("_turns" : Str) = some (.ref ta) := by unfold stf; rw [lookup_putF, if_neg (by decide +kernel), lookup_putF, if_pos rfl]
theorem stf_risen : (stf p mo ta r).lookup ("_risen" : Str) = some (.ref r) := by unfold stf; rw [lookup_putF, if_pos rfl]
theorem stf_no {m : Str} (h1 : ¬ m = "_risen") (h2 : ¬ m = "_turns") (h3 : ¬ m = "mode") (h4 : ¬ m = "system") : (stf p mo ta r).lookup m = none := by unfold stf; rw [lookup_putF, if_neg h1, lookup_putF, if_neg h2, lookup_putF, if_neg h3, lookup_putF, if_neg h4]; rfl
end
/-- a hint that fits a mode and a turn -/
def hintB (mo : Str) (r : List (Str × Int)) : V → Bool
  | .non => true
  | .str z => !decide (mo = "none") && decide (z ∈ r.map (·.1))
  | _ => false
/-- a view, as a thing -/
structure IsView (n : Int) (ws : List (List Int)) (ts : List (List (Str × Int))) (mo : Str) (H : Hp) (v : V) : Prop where
  ex : ∃ (a : Addr) (s p : Int) (ov hv : V), v = .ref a ∧ H a = some (.tup [.int s, .int p, ov, hv]) ∧ 0 ≤ s ∧ s < ts.length ∧ 0 ≤ p ∧ p < n ∧ OffIs n ws H ov ∧ hintB mo (ts.getD s.toNat []) hv = true
/-- a thing whose items, if it is a tuple, are such things -/
structure Thg2 (K : PySem.W.Frag) (H : Hp) (v : V) : Prop where
  me : Thg K H v
  it : ∀ a xs, v = .ref a → H a = some (.tup xs) → ∀ x ∈ xs, Thg K H x
theorem Thg.back {K : PySem.W.Frag} {H G : Hp} {a : Addr} {xs : List V} (h : Thg K H (.ref a)) (k : Same H G) (e : G a = some (.tup xs)) : H a = some (.tup xs) := by
  obtain ⟨n, hn⟩ := h.ty
  cases hn with
  | blt hb =>
    cases q : H a with
    | none => unfold tyN at hb; simp only [q] at hb; cases hb
    | some o => rw [k _ _ q] at e; cases e; rfl
  | ins q _ _ => rw [k _ _ q] at e; cases e
  | err q _ => rw [k _ _ q] at e; cases e
theorem Thg2.same {K : PySem.W.Frag} {H G : Hp} {v : V} (h : Thg2 K H v) (k : Same H G) : Thg2 K G v := by
  refine ⟨h.me.same k, fun a xs e h1 x m => ?_⟩
  subst e
  exact (h.it a xs rfl (h.me.back k h1) x m).same k
theorem OffIs.back {K : PySem.W.Frag} {n : Int} {ws : List (List Int)} {H G : Hp} {v : V} (h : OffIs n ws G v) (t : Thg K H v) (k : Same H G) : OffIs n ws H v := by
  obtain ⟨off, ⟨a, rfl, e⟩, ok⟩ := h
  exact ⟨off, ⟨a, rfl, t.back k e⟩, ok⟩
theorem IsView.same {n : Int} {ws : List (List Int)} {ts : List (List (Str × Int))} {mo : Str} {H G : Hp} {v : V} (h : IsView n ws ts mo H v) (k : Same H G) : IsView n ws ts mo G v := by
  obtain ⟨a, s, p, ov, hv, e, h1, h2, h3, h4, h5, h6, h7⟩ := h.ex
  exact ⟨a, s, p, ov, hv, e, k _ _ h1, h2, h3, h4, h5, h6.same k, h7⟩
theorem IsView.back {K : PySem.W.Frag} {n : Int} {ws : List (List Int)} {ts : List (List (Str × Int))} {mo : Str} {H G : Hp} {v : V} (h : IsView n ws ts mo G v) (t : Thg2 K H v) (k : Same H G) : IsView n ws ts mo H v := by
  obtain ⟨a, s, p, ov, hv, rfl, h1, h2, h3, h4, h5, h6, h7⟩ := h.ex
  have e := t.me.back k h1
  exact ⟨a, s, p, ov, hv, rfl, e, h2, h3, h4, h5, h6.back (t.it a _ rfl e ov (by simp)) k, h7⟩
theorem below_is {m : Int} {v : V} (h : isBelow m v = true) : ∃ i, v = .int i ∧ 0 ≤ i ∧ i < m := by
  cases v with
  | int i =>
    have h := of_decide_eq_true (show decide (0 ≤ i ∧ i < m) = true from h)
    exact ⟨i, rfl, h.1, h.2⟩
  | _ => cases h
theorem tyG_of {K : PySem.W.Frag} {H : Hp} {v : V} {n : String} (h : tyN H v = some n) : TyG K H v n := .blt h
structure StAt (CS CT : Addr) (H : Hp) (q : Addr) (S : Sys) (ts : List (List (Str × Int))) (mo : Str) : Prop where
  ex : ∃ (dx p ta r : Addr) (ds : List Addr), H q = some (.ins CT dx (stf p mo ta r)) ∧ SysAt CS H p S ∧ TurnsAt H ta ds ts ∧ H r = some (.dK [])
def spSteps (CS CM CT : Addr) : Sp := fun vs H Q _ => ∃ (q dx p m : Addr) (S : Sys) (M : Mc) (mo : Str) (H0 : Hp), vs = [.ref q, .ref p, .ref m, .str mo] ∧ H q = some (.ins CT dx []) ∧ H0 q = none ∧ Same H0 H ∧ SysAt CS H0 p S ∧ McAt CM H0 m M ∧ McOk M ∧
  ∀ G, Same H0 G → StAt CS CT G q S M.ts mo → (∀ dx p ta r, G q = some (.ins CT dx (stf p mo ta r)) → H0 r = none) → Q .non G
def spIsHint (K : PySem.W.Frag) (CS CT : Addr) : Sp := fun vs H Q _ => ∃ (q : Addr) (S : Sys) (ts : List (List (Str × Int))) (mo : Str) (s : Int) (v : V) (n : String), vs = [.ref q, .int s, v] ∧ StAt CS CT H q S ts mo ∧ TyG K H v n ∧ 0 ≤ s ∧ s < ts.length ∧ Q (.bl (hintB mo (ts.getD s.toNat []) v)) H
def spStView (K : PySem.W.Frag) (CS CT : Addr) : Sp := fun vs H Q _ => ∃ (q : Addr) (S : Sys) (ts : List (List (Str × Int))) (mo : Str) (v : V), vs = [.ref q, v] ∧ SysOk S ∧ StAt CS CT H q S ts mo ∧ Thg2 K H v ∧ ∀ b G, Same H G → (b = true ↔ IsView S.n S.ws ts mo H v) → Q (.bl b) G
section
variable {P : Program} {w : World} {K : PySem.W.Frag} {mg : Str → Option Value} {base : Heap}
theorem ok_StepsZ_initZ (T : Top K mg) : OkI P w K mg base CX0 3 "Steps" T.c_Steps ["self", "system", "machine", "mode"] (spSteps T.c_System T.c_Machine T.c_Steps) := by
  refine okI_of T.mg_Steps T.i_Steps sc_StepsZ_initZ (fun vs H Q E h => ?_) (fun f cdv A outer s H vs Q E hr h => ?_)
  · obtain ⟨q, dx, p, m, S, M, mo, H0, rfl, _⟩ := h
    rfl
  · obtain ⟨q, dx, p, m, S, M, mo, H0, rfl, hq, nq, s0, SA, MA, ok, k⟩ := h
    obtain ⟨p_turns, g_turns, fd_turns, P_turns, b_turns, G_turns⟩ := ok_Machine_turns (P := P) (w := w) (base := base) T
    have hr_turns : Room 2 _ := hr.mono (by decide)
    refine ⟨_, (pss_cons (ps_fld (pv 0) (pv 1) rfl)
      (pss_cons (ps_fld (pv 0) (pv 3) rfl)
      (pss_cons (ps_fld (pv 0) (pe_prop (pv 2) T.cl_Machine P_turns G_turns hr_turns b_turns .nil pass0 rfl) rfl)
      (pss_one (ps_fld (pv 0) pe_dnewK rfl))))), ?_⟩
    refine ⟨_, rfl, _, rfl, q, T.c_Steps, dx, _, rfl, hq, T.cl_Steps, T.na_Steps_system, (by show 0 < 1000; decide), ?_⟩
    have s1 : Same H0 (upd H q (.ins T.c_Steps dx (putF "system" (.ref p) []))) := same_upd s0 nq
    have q1 : (upd H q (.ins T.c_Steps dx (putF "system" (.ref p) []))) q = some (.ins T.c_Steps dx (putF "system" (.ref p) [])) := upd_same
    generalize upd H q (.ins T.c_Steps dx (putF "system" (.ref p) [])) = H1 at *
    have f1 := putF_len "system" (V.ref p) []
    have f0 : ([] : List (Str × V)).length = 0 := rfl
    refine ⟨_, rfl, _, rfl, q, T.c_Steps, dx, _, rfl, q1, T.cl_Steps, T.na_Steps_mode, by omega, ?_⟩
    have f2 := putF_len "mode" (V.str mo) (putF "system" (V.ref p) [])
    have s2 : Same H0 (upd H1 q (.ins T.c_Steps dx (putF "mode" (.str mo) (putF "system" (.ref p) [])))) := same_upd s1 nq
    have q2 : (upd H1 q (.ins T.c_Steps dx (putF "mode" (.str mo) (putF "system" (.ref p) [])))) q = some (.ins T.c_Steps dx (putF "mode" (.str mo) (putF "system" (.ref p) []))) := upd_same
    generalize upd H1 q (.ins T.c_Steps dx (putF "mode" (.str mo) (putF "system" (.ref p) []))) = H2 at *
    have M2 := MA.same s2
    obtain ⟨dm, tm, nm, dms, hm, _, _⟩ := M2.ex
    refine ⟨_, rfl, m, dm, _, rfl, hm, m, M, rfl, M2, ok, fun ta ds H3 s3 T3 new => ?_⟩
    have q3 := s3 _ _ q2
    refine ⟨_, rfl, q, T.c_Steps, dx, _, rfl, q3, T.cl_Steps, T.na_Steps__turns, by omega, ?_⟩
    have f3 := putF_len "_turns" (V.ref ta) (putF "mode" (V.str mo) (putF "system" (V.ref p) []))
    have s4 : Same H0 (upd H3 q (.ins T.c_Steps dx (putF "_turns" (.ref ta) (putF "mode" (.str mo) (putF "system" (.ref p) []))))) := same_upd (s2.trans s3) nq
    have T4 : TurnsAt (upd H3 q (.ins T.c_Steps dx (putF "_turns" (.ref ta) (putF "mode" (.str mo) (putF "system" (.ref p) []))))) ta ds M.ts := T3.keep q3 Keep.upd
    have q4 : (upd H3 q (.ins T.c_Steps dx (putF "_turns" (.ref ta) (putF "mode" (.str mo) (putF "system" (.ref p) []))))) q = some (.ins T.c_Steps dx (putF "_turns" (.ref ta) (putF "mode" (.str mo) (putF "system" (.ref p) [])))) := upd_same
    generalize upd H3 q (.ins T.c_Steps dx (putF "_turns" (.ref ta) (putF "mode" (.str mo) (putF "system" (.ref p) [])))) = H4 at *
    intro r nr
    have s5 : Same H4 (upd H4 r (.dK [])) := same_new nr
    have r5 : (upd H4 r (.dK [])) r = some (.dK []) := upd_same
    generalize upd H4 r (.dK []) = H5 at *
    have q5 := s5 _ _ q4
    refine ⟨_, rfl, q, T.c_Steps, dx, _, rfl, q5, T.cl_Steps, T.na_Steps__risen, by omega, ?_⟩
    have s6 := same_upd (o := HO.ins T.c_Steps dx (stf p mo ta r)) (s4.trans s5) nq
    refine k _ s6 ⟨dx, p, ta, r, ds, upd_same, SA.same s6, (T4.same s5).keep q5 Keep.upd, (upd_ne (ne_of r5 q5 (by intro z; cases z))).trans r5⟩ (fun dx' p' ta' r' e => ?_)
    rw [upd_same] at e
    injection e with e
    injection e with _ _ e
    have e1 : (stf p mo ta r).lookup ("_risen" : Str) = (stf p' mo ta' r').lookup ("_risen" : Str) := congrArg (List.lookup ("_risen" : Str)) (show stf p mo ta r = stf p' mo ta' r' from e)
    rw [stf_risen, stf_risen] at e1
    injection e1 with e1
    injection e1 with e1
    subst e1
    cases z : H0 r with
    | none => rfl
    | some o => rw [s4 _ _ z] at nr; cases nr
theorem ok_StepsZis_hint (T : Top K mg) : OkM P w K mg base CX0 2 T.c_Steps "_is_hint" ["self", "state", "hint"] (spIsHint K T.c_System T.c_Steps) := by
  refine okM_of T.m_Steps__is_hint sc_StepsZis_hint (fun vs H Q E h => ?_) (fun f cdv A outer s H vs Q E hr h => ?_)
  · obtain ⟨q, S, ts, mo, s, v, n, rfl, _⟩ := h
    rfl
  · obtain ⟨q, S, ts, mo, s, v, n, rfl, A, hn, s0, s1, k⟩ := h
    obtain ⟨f_is_known, fd_is_known, m_is_known, k_is_known, b_is_known, G_is_known⟩ := ok_is_known (P := P) (w := w) (base := base) T
    have hr_is_known : Room 1 _ := hr.mono (by decide)
    obtain ⟨dx, p, ta, r, ds, hq, SA, hT, _⟩ := A.ex
    refine ⟨_, (pss_one (ps_ret (pe_or (pe_cmpR op_isN (pv 2) pe_non (nomark _)) (pe_one (pe_and (pe_cmpR op_ne (pe_fld (pv 0) rfl) pe_str (nomark _)) (pe_one (pe_call G_is_known hr_is_known rfl m_is_known k_is_known b_is_known .nil pass0 (pa_cons (pv 2) (pa_cons (pe_ix ix_tup (pe_fld (pv 0) rfl) (pv 1) (fun _ _ => rfl)) pa_nil))))))))), ?_⟩
    refine ⟨_, rfl, rfl, _, rfl, ?_⟩
    refine ite2 (fun g => ?_) (fun g => ?_)
    · have g := of_decide_eq_true g
      subst g
      exact k
    refine ⟨_, rfl, q, T.c_Steps, dx, _, _, rfl, hq, T.cl_Steps, T.na_Steps_mode, stf_mode, rfl, _, rfl, ?_⟩
    refine ite2 (fun g2 => ?_) (fun g2 => ?_)
    · obtain ⟨row, hrow⟩ : ∃ row, ts[s.toNat]? = some row := ⟨_, List.getElem?_eq_getElem (by omega)⟩
      obtain ⟨d, hd, ed⟩ := prd_at2 hT.each hrow
      have eI : atI (ds.map V.ref) s = some (.ref d) := by
        have := atI_nat (j := s.toNat) (v := V.ref d) (show (ds.map V.ref)[s.toNat]? = _ by rw [List.getElem?_map, hd]; rfl)
        rwa [Int.toNat_of_nonneg s0] at this
      have er : ts.getD s.toNat [] = row := by rw [List.getD_eq_getElem?_getD, hrow]; rfl
      rw [er] at k
      refine ⟨_, rfl, _, rfl, q, T.c_Steps, dx, _, _, rfl, hq, T.cl_Steps, T.na_Steps__turns, stf_turns, _, rfl, ta, _, s, _, rfl, rfl, SqT.of hT.tup, eI, v, n, d, rfl, hn, .inl ⟨tkv row, ed, ?_⟩⟩
      have g2 : (!decide (V.str mo = V.str "none")) = true := g2
      have e : hintB mo row v = isKn (tkv row) v := by
        cases v with
        | non => exact absurd rfl g
        | str z =>
          have e1 : isKn (tkv row) (.str z) = decide (z ∈ row.map (·.1)) := by
            show (valV (tkv row) (.inr z)).isSome = _
            rw [Bool.eq_iff_iff, tkv_some, decide_eq_true_iff]
          have e2 : (!decide (mo = "none")) = true := by
            rw [← g2]
            congr 1
            rw [Bool.eq_iff_iff, decide_eq_true_iff, decide_eq_true_iff]
            exact ⟨fun z => by rw [z], fun z => by injection z⟩
          rw [e1]
          show (!decide (mo = "none") && _) = _
          rw [e2, Bool.true_and]
        | _ => rfl
      rw [← e]
      exact k
    · have g2 : ¬ (!decide (V.str mo = V.str "none")) = true := g2
      have e : mo = "none" := by
        by_cases e : mo = "none"
        · exact e
        · exact absurd (by rw [decide_eq_false (fun z => e (by injection z))]; rfl) g2
      have eh : hintB mo (ts.getD s.toNat []) v = false := by
        cases v with
        | non => exact absurd rfl g
        | str z => show (!decide (mo = "none") && _) = _; rw [decide_eq_true e]; rfl
        | _ => rfl
      rw [eh] at k
      exact k
theorem ok_Steps_is_view (T : Top K mg) : OkM P w K mg base CX0 4 T.c_Steps "is_view" ["self", "thing"] (spStView K T.c_System T.c_Steps) := by
  refine okM_of T.m_Steps_is_view sc_Steps_is_view (fun vs H Q E h => ?_) (fun f cdv A outer s H vs Q E hr h => ?_)
  · obtain ⟨q, S, ts, mo, v, rfl, _⟩ := h
    rfl
  · obtain ⟨q, S, ts, mo, v, rfl, ok, A, t, k⟩ := h
    obtain ⟨f_is_tuple_of, fd_is_tuple_of, m_is_tuple_of, k_is_tuple_of, b_is_tuple_of, G_is_tuple_of⟩ := ok_is_tuple_of (P := P) (w := w) (base := base) T
    have hr_is_tuple_of : Room 1 _ := hr.mono (by decide)
    obtain ⟨f_is_below, fd_is_below, m_is_below, k_is_below, b_is_below, G_is_below⟩ := ok_is_below (P := P) (w := w) (base := base) T
    have hr_is_below : Room 3 _ := hr.mono (by decide)
    obtain ⟨f__is_hint, fd__is_hint, M__is_hint, b__is_hint, G__is_hint⟩ := ok_StepsZis_hint (P := P) (w := w) (base := base) T
    have hr__is_hint : Room 2 _ := hr.mono (by decide)
    obtain ⟨f_is_offsets, fd_is_offsets, m_is_offsets, k_is_offsets, b_is_offsets, G_is_offsets⟩ := ok_is_offsets (P := P) (w := w) (base := base) T
    have hr_is_offsets : Room 3 _ := hr.mono (by decide)
    obtain ⟨f_is_tuple_of, fd_is_tuple_of, m_is_tuple_of, k_is_tuple_of, b_is_tuple_of, G_is_tuple_of⟩ := okG_is_tuple_of (P := P) (w := w) (base := base) T
    obtain ⟨dx, p, ta, r, ds, hq, SA, hT, hr0⟩ := A.ex
    have len : ds.length = ts.length := Paired.length hT.each
    have lenr : (((ds.map V.ref).length : Nat) : Int) = ts.length := by rw [List.length_map, len]
    obtain ⟨n, hn⟩ := t.me.ty
    refine ⟨_, (pss_cons (ps_if (pt_not (pt_val (pe_call G_is_tuple_of hr_is_tuple_of rfl m_is_tuple_of k_is_tuple_of b_is_tuple_of .nil pass0 (pa_cons (pv 1) (pa_cons pe_int pa_nil)))))
      (pss_one (ps_ret pe_bl))
      pss_nil)
      (pss_cons (ps_asg (pv 1) (pg_tup rfl (pgs_cons (pg_name (i := 2) sc_Steps_is_view.nd rfl (Or.inl rfl)) (pgs_cons (pg_name (i := 3) sc_Steps_is_view.nd rfl (Or.inl rfl)) (pgs_cons (pg_name (i := 4) sc_Steps_is_view.nd rfl (Or.inl rfl)) (pgs_cons (pg_name (i := 5) sc_Steps_is_view.nd rfl (Or.inl rfl)) pgs_nil))))))
      (pss_cons (ps_if (PW.pt (pw_or (pt_not (pt_val (pe_call G_is_below hr_is_below rfl m_is_below k_is_below b_is_below .nil pass0 (pa_cons (pv 2) (pa_cons (pe_callB (id := "len") call_len_seq (by rfl) T.b_len (by decide +kernel) (pa_cons (pe_fld (pv 0) rfl) pa_nil)) pa_nil))))) (pw_or1 (pt_not (pt_val (pe_call G_is_below hr_is_below rfl m_is_below k_is_below b_is_below .nil pass0 (pa_cons (pv 3) (pa_cons (pe_fld (pe_fld (pv 0) rfl) rfl) pa_nil))))))))
      (pss_one (ps_ret pe_bl))
      pss_nil)
      (pss_one (ps_ret (pe_and (pe_call G_is_offsets hr_is_offsets rfl m_is_offsets k_is_offsets b_is_offsets .nil pass0 (pa_cons (pe_fld (pv 0) rfl) (pa_cons (pv 4) pa_nil))) (pe_one (pe_meth (pv 0) T.cl_Steps M__is_hint G__is_hint hr__is_hint b__is_hint .nil pass0 (pa_cons (pv 2) (pa_cons (pv 5) pa_nil)))))))))), ?_⟩
    refine ⟨_, rfl, v, n, _, rfl, hn, _, rfl, ?_⟩
    cases hb : isTup H 4 v with
    | false =>
      refine ite2 (fun _ => ?_) (fun g => absurd rfl g)
      refine k false _ (Same.refl _) ⟨fun z => (nomatch z), fun h => ?_⟩
      obtain ⟨a, s, p', ov, hv, rfl, h1, _⟩ := h.ex
      have e := tup_isTup (m := 4) h1 rfl
      rw [hb] at e
      cases e
    | true =>
      refine ite2 (fun g => nomatch g) (fun _ => ?_)
      obtain ⟨a, xs, rfl, ha, hlx⟩ := isTup_yes hb
      obtain ⟨sv, pv, ov, hv, rfl⟩ : ∃ x0 x1 x2 x3, xs = [x0, x1, x2, x3] := by
        match xs, hlx with
        | [x0, x1, x2, x3], _ => exact ⟨x0, x1, x2, x3, rfl⟩
        | [], h => simp at h
        | [_], h => simp at h
        | [_, _], h => simp at h
        | [_, _, _], h => simp at h
        | _ :: _ :: _ :: _ :: _ :: _, h => simp only [List.length_cons] at h; omega
      have ti := t.it a _ rfl ha
      have bi := t.me.it a _ rfl ha
      obtain ⟨ns, hs⟩ := bi sv (by simp)
      obtain ⟨np, hp⟩ := bi pv (by simp)
      obtain ⟨nh, hh⟩ := bi hv (by simp)
      have uniq : IsView S.n S.ws ts mo H (.ref a) → ∃ s p : Int, sv = .int s ∧ pv = .int p ∧ 0 ≤ s ∧ s < ts.length ∧ 0 ≤ p ∧ p < S.n ∧ OffIs S.n S.ws H ov ∧ hintB mo (ts.getD s.toNat []) hv = true := fun h => by
        obtain ⟨a', s, p', ov', hv', e, h1, h2⟩ := h.ex
        cases e
        rw [ha] at h1
        cases h1
        exact ⟨s, p', rfl, rfl, h2⟩
      have bel : ∀ {m i : Int}, 0 ≤ i → i < m → isBelow m (.int i) = true := fun a b => decide_eq_true ⟨a, b⟩
      refine ⟨_, rfl, a, _, rfl, SqT.of ha, rfl, _, _, rfl, _, _, rfl, _, _, rfl, _, _, rfl, rfl, ?_⟩
      refine ⟨_, rfl, _, rfl, q, T.c_Steps, dx, _, _, rfl, hq, T.cl_Steps, T.na_Steps__turns, stf_turns, ta, _, rfl, .inr (SqT.of hT.tup), sv, ns, _, rfl, hs, _, rfl, ?_⟩
      rw [lenr]
      cases hb1 : isBelow ts.length sv with
      | false =>
        refine ite2 (fun _ => ?_) (fun g => absurd rfl g)
        refine k false _ (Same.refl _) ⟨fun z => (nomatch z), fun h => ?_⟩
        obtain ⟨s, p', rfl, rfl, a1, a2, _⟩ := uniq h
        rw [bel a1 a2] at hb1; cases hb1
      | true =>
      refine ite2 (fun g => nomatch g) (fun _ => ?_)
      obtain ⟨dxs, mv, na, wv, qs, kvs, hps, _⟩ := SA.ex
      refine ⟨_, rfl, _, rfl, q, T.c_Steps, dx, _, _, rfl, hq, T.cl_Steps, T.na_Steps_system, stf_system, p, T.c_System, dxs, _, _, rfl, hps, T.cl_System, T.na_System_posts, sfs_posts, pv, np, _, rfl, hp, _, rfl, ?_⟩
      cases hb2 : isBelow S.n pv with
      | false =>
        refine ite2 (fun _ => ?_) (fun g => absurd rfl g)
        refine k false _ (Same.refl _) ⟨fun z => (nomatch z), fun h => ?_⟩
        obtain ⟨s, p', rfl, rfl, _, _, a1, a2, _⟩ := uniq h
        rw [bel a1 a2] at hb2; cases hb2
      | true =>
      refine ite2 (fun g => nomatch g) (fun _ => ?_)
      obtain ⟨s, rfl, s0, s1⟩ := below_is hb1
      obtain ⟨p', rfl, p0, p1⟩ := below_is hb2
      refine ⟨_, rfl, q, T.c_Steps, dx, _, _, rfl, hq, T.cl_Steps, T.na_Steps_system, stf_system, _, rfl, p, S, ov, rfl, ok, SA, ti ov (by simp), fun b G sG hbG => ?_⟩
      refine ⟨b, rfl, ?_⟩
      cases b with
      | false =>
        refine ite2 (fun g => nomatch g) (fun _ => ?_)
        refine k false _ sG ⟨fun z => (nomatch z), fun h => ?_⟩
        obtain ⟨_, _, _, _, _, _, _, _, h1, _⟩ := uniq h
        exact (nomatch (hbG.mpr h1))
      | true =>
        refine ite2 (fun _ => ?_) (fun g => absurd rfl g)
        have AG : StAt T.c_System T.c_Steps G q S ts mo := ⟨dx, p, ta, r, ds, sG _ _ hq, SA.same sG, hT.same sG, sG _ _ hr0⟩
        refine ⟨_, rfl, q, dx, _, rfl, sG _ _ hq, stf_no (by decide +kernel) (by decide +kernel) (by decide +kernel) (by decide +kernel), _, rfl, _, rfl, q, S, ts, mo, s, hv, nh, rfl, AG, .blt (tyN_keep sG hh), s0, s1, ?_⟩
        refine k _ _ sG ⟨fun h => ⟨a, s, p', ov, hv, rfl, ha, s0, s1, p0, p1, hbG.mp rfl, h⟩, fun h => ?_⟩
        obtain ⟨s2, _, e, _, _, _, _, _, _, h1⟩ := uniq h
        injection e with e
        rw [e]
        exact h1
end
end Toy

namespace Toy
open PySem PySem.Spec PyProof.Rows L2
local macro_rules | `(tactic| walk_at "hp") => `(tactic| first
  | assumption
  | exact upd_same
  | (refine Eq.trans (upd_ne (by first | assumption | (apply Ne.symm; assumption))) ?_; walk_at "hp"))
local macro_rules | `(tactic| walk_at "side") => `(tactic| first
  | exact .inl ⟨by omega, by omega⟩
  | exact .inr ⟨by omega, by omega⟩
  | exact ⟨by omega, by omega⟩
  | (show _ ≤ _; omega)
  | (show (_ : Int) < _; omega)
  | decide
  | assumption)
local macro_rules | `(tactic| walk_at "r") => `(tactic| first
  | refine ⟨_, rfl, ?_⟩
  | refine ⟨_, _, rfl, rfl, ?_⟩
  | refine ⟨_, _, _, _, rfl, rfl, SqL.of (by walk_at "hp"), rfl, ?_⟩
  | refine ⟨_, _, _, _, rfl, rfl, SqT.of (by walk_at "hp"), rfl, ?_⟩
  | refine ⟨_, _, _, _, rfl, rfl, (by walk_at "hp"), rfl, ?_⟩
  | refine And.intro rfl ?_
  | refine ⟨_, _, rfl, SqT.of (by walk_at "hp"), ?_⟩
  | refine ⟨_, _, rfl, SqL.of (by walk_at "hp"), ?_⟩
  | refine .inl ⟨_, rfl, ?_⟩
  | refine ⟨_, _, rfl, .inl (SqL.of (by walk_at "hp")), ?_⟩
  | refine ⟨_, _, rfl, .inr (SqT.of (by walk_at "hp")), ?_⟩
  | refine ⟨_, _, rfl, .inl ⟨SqL.of (by walk_at "hp"), ?_⟩⟩
  | refine And.intro (.inl ⟨rfl, _, SqL.of (by walk_at "hp")⟩) ?_
  | refine ⟨_, _, _, rfl, rfl, (by walk_at "hp"), ?_⟩
  | refine ⟨_, _, rfl, (by walk_at "hp"), ?_⟩
  | refine And.intro (by walk_at "side") ?_)
local macro_rules | `(tactic| walk_at "rr") => `(tactic| (repeat walk_at "r"))
local macro_rules | `(tactic| walk_at "k") => `(tactic| first
  | refine ite2 (fun _ => ?_) (fun g => absurd rfl g)
  | refine ite2 (fun g => absurd g (by decide)) (fun _ => ?_)
  | refine ite2 (fun _ => ?_) (fun g => absurd (decide_eq_true (by omega)) g)
  | refine ite2 (fun g => absurd (of_decide_eq_true g) (by omega)) (fun _ => ?_)
  | refine ite2 (fun g => (nd_t g (by omega)).elim) (fun _ => ?_)
  | refine ite2 (fun _ => ?_) (fun g => absurd (nd_f g) (by omega)))
local macro_rules | `(tactic| walk_at "rk") => `(tactic| (repeat (first | walk_at "r" | walk_at "k")))
def spIsView (K : PySem.W.Frag) (CS CM : Addr) : Sp := fun vs H Q _ => ∃ (p m : Addr) (S : Sys) (M : Mc) (mo : Str) (v : V), vs = [.ref p, .ref m, .str mo, v] ∧ SysOk S ∧ SysAt CS H p S ∧ McAt CM H m M ∧ McOk M ∧ (∀ z ∈ M.ns, z ∈ S.rs.map (·.1)) ∧ mo ∈ modes ∧ Thg2 K H v ∧
  ∀ b G, Same H G → (b = true ↔ IsView S.n S.ws M.ts mo H v) → Q (.bl b) G
section
variable {P : Program} {w : World} {K : PySem.W.Frag} {mg : Str → Option Value} {base : Heap}
end
end Toy

namespace Toy
open PySem PySem.Spec PyProof.Rows L2
local macro_rules | `(tactic| walk_at "hp") => `(tactic| first
  | assumption
  | exact upd_same
  | (refine Eq.trans (upd_ne (by first | assumption | (apply Ne.symm; assumption))) ?_; walk_at "hp"))
local macro_rules | `(tactic| walk_at "side") => `(tactic| first
  | exact .inl ⟨by omega, by omega⟩
  | exact .inr ⟨by omega, by omega⟩
  | exact ⟨by omega, by omega⟩
  | (show _ ≤ _; omega)
  | (show (_ : Int) < _; omega)
  | decide
  | assumption)
local macro_rules | `(tactic| walk_at "r") => `(tactic| first
  | refine ⟨_, rfl, ?_⟩
  | refine ⟨_, _, rfl, rfl, ?_⟩
  | refine ⟨_, _, _, _, rfl, rfl, SqL.of (by walk_at "hp"), rfl, ?_⟩
  | refine ⟨_, _, _, _, rfl, rfl, SqT.of (by walk_at "hp"), rfl, ?_⟩
  | refine ⟨_, _, _, _, rfl, rfl, (by walk_at "hp"), rfl, ?_⟩
  | refine And.intro rfl ?_
  | refine ⟨_, _, rfl, SqT.of (by walk_at "hp"), ?_⟩
  | refine ⟨_, _, rfl, SqL.of (by walk_at "hp"), ?_⟩
  | refine .inl ⟨_, rfl, ?_⟩
  | refine ⟨_, _, rfl, .inl (SqL.of (by walk_at "hp")), ?_⟩
  | refine ⟨_, _, rfl, .inr (SqT.of (by walk_at "hp")), ?_⟩
  | refine ⟨_, _, rfl, .inl ⟨SqL.of (by walk_at "hp"), ?_⟩⟩
  | refine And.intro (.inl ⟨rfl, _, SqL.of (by walk_at "hp")⟩) ?_
  | refine ⟨_, _, _, rfl, rfl, (by walk_at "hp"), ?_⟩
  | refine ⟨_, _, rfl, (by walk_at "hp"), ?_⟩
  | refine And.intro (by walk_at "side") ?_)
local macro_rules | `(tactic| walk_at "rr") => `(tactic| (repeat walk_at "r"))
local macro_rules | `(tactic| walk_at "k") => `(tactic| first
  | refine ite2 (fun _ => ?_) (fun g => absurd rfl g)
  | refine ite2 (fun g => absurd g (by decide)) (fun _ => ?_)
  | refine ite2 (fun _ => ?_) (fun g => absurd (decide_eq_true (by omega)) g)
  | refine ite2 (fun g => absurd (of_decide_eq_true g) (by omega)) (fun _ => ?_)
  | refine ite2 (fun g => (nd_t g (by omega)).elim) (fun _ => ?_)
  | refine ite2 (fun _ => ?_) (fun g => absurd (nd_f g) (by omega)))
local macro_rules | `(tactic| walk_at "rk") => `(tactic| (repeat (first | walk_at "r" | walk_at "k")))
theorem four_of {xs : List V} (h : (xs.length : Int) = 4) : ∃ x0 x1 x2 x3, xs = [x0, x1, x2, x3] := by
  match xs, h with
  | [x0, x1, x2, x3], _ => exact ⟨x0, x1, x2, x3, rfl⟩
  | [], h => simp at h
  | [_], h => simp at h
  | [_, _], h => simp at h
  | [_, _, _], h => simp at h
  | _ :: _ :: _ :: _ :: _ :: _, h => simp only [List.length_cons] at h; omega
def spRightView (K : PySem.W.Frag) : Sp := fun vs H Q _ => ∃ (L ta : Addr) (ds : List Addr) (ts : List (List (Str × Int))) (mo : Str) (MM : Nat → Nat → Int) (n : Int) (ws : List (List Int)) (v : V), vs = [.ref L, .ref ta, .str mo, v] ∧ LM H L n.toNat MM ∧ (∀ i j, i < n.toNat → j < n.toNat → MM i j = mat ws i j) ∧ 1 ≤ n ∧ n ≤ 6 ∧
  TurnsAt H ta ds ts ∧ Thg2 K H v ∧ ∀ b G, Same H G → (b = true ↔ IsView n ws ts mo H v) → Q (.bl b) G
section
variable {P : Program} {w : World} {K : PySem.W.Frag} {mg : Str → Option Value} {base : Heap}
end
end Toy

namespace Toy
open PySem PySem.Spec PyProof.Rows L2
local macro_rules | `(tactic| walk_at "hp") => `(tactic| first
  | assumption
  | exact upd_same
  | (refine Eq.trans (upd_ne (by first | assumption | (apply Ne.symm; assumption))) ?_; walk_at "hp"))
local macro_rules | `(tactic| walk_at "side") => `(tactic| first
  | exact .inl ⟨by omega, by omega⟩
  | exact .inr ⟨by omega, by omega⟩
  | exact ⟨by omega, by omega⟩
  | (show _ ≤ _; omega)
  | (show (_ : Int) < _; omega)
  | decide
  | assumption)
local macro_rules | `(tactic| walk_at "r") => `(tactic| first
  | refine ⟨_, rfl, ?_⟩
  | refine ⟨_, _, rfl, rfl, ?_⟩
  | refine ⟨_, _, _, _, rfl, rfl, SqL.of (by walk_at "hp"), rfl, ?_⟩
  | refine ⟨_, _, _, _, rfl, rfl, SqT.of (by walk_at "hp"), rfl, ?_⟩
  | refine ⟨_, _, _, _, rfl, rfl, (by walk_at "hp"), rfl, ?_⟩
  | refine And.intro rfl ?_
  | refine ⟨_, _, rfl, SqT.of (by walk_at "hp"), ?_⟩
  | refine ⟨_, _, rfl, SqL.of (by walk_at "hp"), ?_⟩
  | refine .inl ⟨_, rfl, ?_⟩
  | refine ⟨_, _, rfl, .inl (SqL.of (by walk_at "hp")), ?_⟩
  | refine ⟨_, _, rfl, .inr (SqT.of (by walk_at "hp")), ?_⟩
  | refine ⟨_, _, rfl, .inl ⟨SqL.of (by walk_at "hp"), ?_⟩⟩
  | refine And.intro (.inl ⟨rfl, _, SqL.of (by walk_at "hp")⟩) ?_
  | refine ⟨_, _, _, rfl, rfl, (by walk_at "hp"), ?_⟩
  | refine ⟨_, _, rfl, (by walk_at "hp"), ?_⟩
  | refine And.intro (by walk_at "side") ?_)
local macro_rules | `(tactic| walk_at "rr") => `(tactic| (repeat walk_at "r"))
local macro_rules | `(tactic| walk_at "k") => `(tactic| first
  | refine ite2 (fun _ => ?_) (fun g => absurd rfl g)
  | refine ite2 (fun g => absurd g (by decide)) (fun _ => ?_)
  | refine ite2 (fun _ => ?_) (fun g => absurd (decide_eq_true (by omega)) g)
  | refine ite2 (fun g => absurd (of_decide_eq_true g) (by omega)) (fun _ => ?_)
  | refine ite2 (fun g => (nd_t g (by omega)).elim) (fun _ => ?_)
  | refine ite2 (fun _ => ?_) (fun g => absurd (nd_f g) (by omega)))
local macro_rules | `(tactic| walk_at "rk") => `(tactic| (repeat (first | walk_at "r" | walk_at "k")))
/-- a turn, as it is drawn -/
structure RowOk (m : Int) (zs : List Str) (r : List (Str × Int)) : Prop where
  nd : (r.map (·.1)).Nodup
  ok : ∀ p ∈ r, p.1 ∈ zs ∧ 0 ≤ p.2 ∧ p.2 < m
theorem tkv_snoc (r : List (Str × Int)) (z : Str) (v : Int) : tkv (r ++ [(z, v)]) = tkv r ++ [(Sum.inr z, .int v)] := by
  unfold tkv
  rw [List.map_append]; rfl
theorem RowOk.snoc {m : Int} {zs : List Str} {r : List (Str × Int)} (k : RowOk m zs r) {z : Str} {v : Int} (hz : z ∈ zs) (no : ¬ z ∈ r.map (·.1)) (v0 : 0 ≤ v) (v1 : v < m) : RowOk m zs (r ++ [(z, v)]) := by
  refine ⟨?_, fun p hp => ?_⟩
  · rw [List.map_append]; exact nd_snoc k.nd no
  · rcases List.mem_append.mp hp with q | q
    · exact k.ok p q
    · rw [List.mem_singleton.mp q]; exact ⟨hz, v0, v1⟩
theorem paired_keepD {d : Addr} {H G : Hp} (k : Keep d H G) {ds : List Addr} {ts : List (List (Str × Int))} (p : Paired (fun d r => H d = some (.dK (tkv r))) ds ts) (no : ∀ e ∈ ds, e ≠ d) : Paired (fun d r => G d = some (.dK (tkv r))) ds ts :=
  paired_snoc_at p fun e m o h => k _ _ (no e m) h
theorem TurnsAt.keepD {c d : Addr} {H G : Hp} {ta : Addr} {ds : List Addr} {ts : List (List (Str × Int))} (t : TurnsAt H ta ds ts) (D : Dice c H d) (k : Keep d H G) : TurnsAt G ta ds ts := by
  refine ⟨k.tup D t.tup, t.nd, paired_keepD k t.each fun e m => ?_⟩
  obtain ⟨i, hi⟩ := List.getElem?_of_mem m
  obtain ⟨r, _, h⟩ := prd_at1 t.each hi
  exact D.dK h
def spLawTurns : Sp := fun vs H Q _ => ∃ (d c l : Addr) (zs : List Str) (m : Int), vs = [.ref d, .ref l, .int m] ∧ Dice c H d ∧ H l = some (.lst (zs.map V.str)) ∧ l ≠ d ∧ zs.Nodup ∧ 1 ≤ zs.length ∧ zs.length ≤ 15 ∧ (∀ z ∈ zs, Name 8 z) ∧ 1 ≤ m ∧ m ≤ 4 ∧
  ∀ ta ds ts G, Keep d H G → Dice c G d → TurnsAt G ta ds ts → Turns ts → (ts.length : Int) = m → (∀ r ∈ ts, ∀ p ∈ r, p.1 ∈ zs) → Q (.ref ta) G
def spLawWorld : Sp := fun vs H Q _ => ∃ (d c : Addr) (n m a : Int), vs = [.ref d, .int n, .int m, .int a] ∧ Dice c H d ∧ 1 ≤ n ∧ n ≤ 6 ∧ 1 ≤ m ∧ m ≤ 4 ∧ 1 ≤ a ∧ a ≤ 5 ∧
  ∀ (wa : Addr) (mv : V) (rows : List (List Int)) (q : Addr) (kvs : List (Key × V)) (rs : List (Str × List (Option Int))) (ta : Addr) (ds : List Addr) (ts : List (List (Str × Int))) (zs : List Str) (G : Hp), Keep d H G → Dice c G d → G wa = some (.tup [mv, .ref q, .ref ta]) → TupT IntT G mv rows → Square n 3 rows →
    G q = some (.dK kvs) → DctOf OptT G kvs rs → rs.map (·.1) = zs → zs.Nodup → 1 ≤ zs.length → (zs.length : Int) ≤ a → (∀ p ∈ rs, Prices n 4 p.2) → (∀ z ∈ zs, Name 8 z) → TurnsAt G ta ds ts → Turns ts → (ts.length : Int) = m → (∀ r ∈ ts, ∀ p ∈ r, p.1 ∈ zs) → Q (.ref wa) G
section
variable {P : Program} {w : World} {K : PySem.W.Frag} {mg : Str → Option Value} {base : Heap}
theorem ok__law_turns (T : Top K mg) : Ok P w K mg base 2 "_law_turns" ["source", "names", "states"] spLawTurns := by
  refine ok_of T.d__law_turns sc__law_turns (fun vs H Q E h => ?_) (fun f cdv A outer s H vs Q E hr h => ?_)
  · obtain ⟨d, c, l, zs, m, rfl, _⟩ := h
    rfl
  · obtain ⟨d, c, l, zs, m, rfl, D, hl, nld, nd, z1, z15, hN, m1, m4, k⟩ := h
    obtain ⟨f__law_draw, fd__law_draw, m__law_draw, k__law_draw, b__law_draw, G__law_draw⟩ := ok__law_draw (P := P) (w := w) (base := base) T
    have hr__law_draw : Room 1 _ := hr.mono (by decide)
    have hu := hu_of hr
    refine ⟨_, (pss_cons (ps_set (i := 3) sc__law_turns.nd rfl (Or.inl rfl) (pe_lst pa_nil))
      (pss_cons (ps_for PassesOwn.never rfl (pi_range1 (by rfl) T.b_range (pa_cons (pv 2) pa_nil)) (pg_name (i := 4) sc__law_turns.nd rfl (Or.inl rfl))
      (pss_cons (ps_set (i := 5) sc__law_turns.nd rfl (Or.inl rfl) pe_dnewK)
      (pss_cons (ps_for PassesOwn.never rfl (pi_list (pv 1)) (pg_name (i := 6) sc__law_turns.nd rfl (Or.inl rfl))
      (pss_one (ps_if (pt_cmpR op_lt (pe_call G__law_draw hr__law_draw rfl m__law_draw k__law_draw b__law_draw .nil pass0 (pa_cons (pv 0) (pa_cons pe_int pa_nil))) pe_int (nomark _))
      (pss_one (ps_dput hu (pv 5) (pv 6) (pe_call G__law_draw hr__law_draw rfl m__law_draw k__law_draw b__law_draw .nil pass0 (pa_cons (pv 0) (pa_cons (pv 2) pa_nil))) rfl))
      pss_nil)))
      (pss_cons (ps_if (pt_cmpR op_eq (pe_callB (id := "len") call_lenD (by rfl) T.b_len (by decide +kernel) (pa_cons (pv 5) pa_nil)) pe_int (nomark _))
      (pss_one (ps_dput hu (pv 5) (pe_ix ix_list (pv 1) (pe_call G__law_draw hr__law_draw rfl m__law_draw k__law_draw b__law_draw .nil pass0 (pa_cons (pv 0) (pa_cons (pe_callB (id := "len") call_len_seq (by rfl) T.b_len (by decide +kernel) (pa_cons (pv 1) pa_nil)) pa_nil))) (fun _ _ => rfl)) (pe_call G__law_draw hr__law_draw rfl m__law_draw k__law_draw b__law_draw .nil pass0 (pa_cons (pv 0) (pa_cons (pv 2) pa_nil))) rfl))
      pss_nil)
      (pss_one (ps_expr (pe_bm PySem.F.plainAttrs_list PySem.F.slot_list_append PySem.F.type_list_append mt_append (pv 3) (pa_cons (pv 5) pa_nil))))))))
      (pss_one (ps_ret (pe_callTy (T := "tuple") call_tuple_of (by rfl) T.b_tuple (by decide +kernel) (pa_cons (pv 3) pa_nil)))))), ?_⟩
    refine ⟨(by show 0 ≤ sizeLine; decide), fun Lt nL => ?_⟩
    have nLd := D.ne nL
    have nLc := D.nc nL
    refine ⟨_, rfl, _, rfl, by omega, by omega, ?_⟩
    refine for_range (lo := 0) (n := m.toNat) (fun i σ' H2 => ∃ (ds : List Addr) (ts : List (List (Str × Int))) (o4 o5 o6 : Option V), σ' = [some (.ref d), some (.ref l), some (.int m), some (.ref Lt), o4, o5, o6] ∧ H2 Lt = some (.lst (ds.map V.ref)) ∧ ds.Nodup ∧ (∀ e ∈ ds, e ≠ Lt ∧ e ≠ d) ∧
        Paired (fun d r => H2 d = some (.dK (tkv r))) ds ts ∧ ts.length = i ∧ (∀ r ∈ ts, RowOk m zs r ∧ 1 ≤ r.length ∧ r.length ≤ 15) ∧ Keep d H H2 ∧ Dice c H2 d)
      ⟨[], [], none, none, none, rfl, upd_same, .nil, by simp, .nil, rfl, by simp, same_keep (same_new nL), D.upd nLd nLc⟩ ?_ ?_
    · rintro i σ' H2 hi ⟨ds, ts, o4, o5, o6, rfl, e2, nds, off, hP, hlen, hR, k2, D2⟩
      have lend : ds.length = ts.length := Paired.length hP
      rw [Int.zero_add]
      intro R nR
      have nRd := D2.ne nR
      have nRc := D2.nc nR
      have nRL : Lt ≠ R := ne_of_none e2 nR
      have s3 : Same H2 (upd H2 R (.dK [])) := same_new nR
      have l2 := k2 _ _ nld hl
      have nRl : l ≠ R := ne_of_none l2 nR
      have D3 := D2.upd nRd nRc (o := .dK [])
      refine ⟨_, rfl, l, rfl, ⟨_, SqL.of (s3 _ _ l2)⟩, ?_⟩
      refine for_list (K := K) (a := l) (xs := zs.map V.str) (fun j σ' H3 => ∃ (r : List (Str × Int)) (o6 : Option V), σ' = [some (.ref d), some (.ref l), some (.int m), some (.ref Lt), some (.int (i : Nat)), some (.ref R), o6] ∧ H3 R = some (.dK (tkv r)) ∧ RowOk m zs r ∧ (∀ p ∈ r, p.1 ∈ zs.take j) ∧ r.length ≤ j ∧ Keep d H2 H3 ∧ Dice c H3 d)
        ⟨[], o6, rfl, upd_same, ⟨.nil, by simp⟩, by simp, Nat.le_refl _, same_keep s3, D3⟩ (fun j σ' H3 _ ⟨_, _, _, _, _, _, _, q, _⟩ => SqL.of (q _ _ nld l2)) ?_ ?_
      · rintro j x σ' H3 hj ⟨r, o6, rfl, eR, ok, tk, le, k3, D3⟩
        obtain ⟨z, hz, rfl⟩ := map_at hj
        have hjl := (List.getElem?_eq_some_iff.mp hz).1
        refine ⟨_, rfl, d, c, _, rfl, D3, by omega, by omega, fun v H4 a0 a1 k4 D4 => ?_⟩
        refine ⟨_, _, rfl, rfl, _, rfl, ?_⟩
        have eR4 := k4 _ _ nRd eR
        refine ite2 (fun g => ?_) (fun g => ?_)
        · refine ⟨_, rfl, _, rfl, d, c, m, rfl, D4, by omega, by omega, fun u H5 b0 b1 k5 D5 => ?_⟩
          have eR5 := k5 _ _ nRd eR4
          have no : ¬ z ∈ r.map (·.1) := fun m' => by
            obtain ⟨p, hp, e⟩ := List.mem_map.mp m'
            exact take_nmem nd hz (e ▸ tk p hp)
          refine ⟨_, rfl, _, rfl, R, _, rfl, DPut.k (k := Sum.inr z) eR5 (by rw [tkv_len]; exact small1000 (by omega)), ?_⟩
          rw [putK_new _ (tkv_none no)]
          refine ⟨r ++ [(z, u)], _, rfl, ?_, ok.snoc (List.mem_of_getElem? hz) no b0 b1, fun p hp => ?_, ?_, ((k3.trans k4).trans k5).mut nR, D5.upd nRd nRc⟩
          · rw [tkv_snoc]; exact upd_same
          · rw [List.take_add_one, hz]
            rcases List.mem_append.mp hp with q | q
            · exact List.mem_append.mpr (.inl (tk p q))
            · rw [List.mem_singleton.mp q]; exact List.mem_append.mpr (.inr (by simp))
          · rw [List.length_append]; exact Nat.add_le_add_right le 1
        · refine ⟨r, _, rfl, eR4, ok, fun p hp => ?_, by omega, k3.trans k4, D4⟩
          rw [List.take_add_one]
          exact List.mem_append.mpr (.inl (tk p hp))
      · rintro σ' H3 ⟨r, o6, rfl, eR, ok, tk, le, k3, D3⟩
        rw [List.length_map] at le
        have fin : ∀ {r : List (Str × Int)} {H4 : Hp}, H4 R = some (.dK (tkv r)) → RowOk m zs r → 1 ≤ r.length → r.length ≤ 15 → Keep d H2 H4 → Dice c H4 d →
            ∃ (ds' : List Addr) (ts' : List (List (Str × Int))), (upd H4 Lt (.lst (ds.map V.ref ++ [.ref R]))) Lt = some (.lst (ds'.map V.ref)) ∧ ds'.Nodup ∧ (∀ e ∈ ds', e ≠ Lt ∧ e ≠ d) ∧ Paired (fun d r => (upd H4 Lt (.lst (ds.map V.ref ++ [.ref R]))) d = some (.dK (tkv r))) ds' ts' ∧ ts'.length = i + 1 ∧
              (∀ r ∈ ts', RowOk m zs r ∧ 1 ≤ r.length ∧ r.length ≤ 15) ∧ Keep d H (upd H4 Lt (.lst (ds.map V.ref ++ [.ref R]))) ∧ Dice c (upd H4 Lt (.lst (ds.map V.ref ++ [.ref R]))) d := by
          intro r H4 eR ok l1 l15 k4 D4
          have hRm : ¬ R ∈ ds := fun m' => by
            obtain ⟨i', hi'⟩ := List.getElem?_of_mem m'
            obtain ⟨_, _, e⟩ := prd_at1 hP hi'
            rw [nR] at e; cases e
          refine ⟨ds ++ [R], ts ++ [r], ?_, nd_snoc nds hRm, fun e he => ?_, ?_, by rw [List.length_append, hlen]; rfl, fun x hx => ?_, (k2.trans k4).mut nL, D4.upd nLd nLc⟩
          · rw [upd_same, List.map_append]; rfl
          · rcases List.mem_append.mp he with q | q
            · exact off e q
            · rw [List.mem_singleton.mp q]; exact ⟨nRL.symm, nRd⟩
          · refine Paired.snoc (paired_snoc_at hP fun e me o h => ?_) ?_
            · rw [upd_ne (off e me).1]; exact k4 _ _ (off e me).2 h
            · rw [upd_ne nRL.symm]; exact eR
          · rcases List.mem_append.mp hx with q | q
            · exact hR x q
            · rw [List.mem_singleton.mp q]; exact ⟨ok, l1, l15⟩
        have small : (ds.map V.ref).length < sizeLine := by rw [List.length_map, lend]; exact small1000 (by omega)
        refine ⟨_, rfl, R, _, rfl, eR, rfl, _, rfl, ?_⟩
        rw [tkv_len]
        refine ite2 (fun g => ?_) (fun g => ?_)
        · have g := of_decide_eq_true g
          injection g with g
          have hr0 : r = [] := List.length_eq_zero_iff.mp (by omega)
          subst hr0
          refine ⟨_, rfl, _, rfl, d, c, m, rfl, D3, by omega, by omega, fun u H4 b0 b1 k4 D4 => ?_⟩
          have l4 := k4 _ _ nld (k3 _ _ nld l2)
          refine ⟨_, rfl, _, rfl, _, rfl, _, rfl, l, _, rfl, .inl (SqL.of l4), ?_⟩
          rw [List.length_map]
          refine ⟨d, c, _, rfl, D4, by omega, by omega, fun i5 H5 c0 c1 k5 D5 => ?_⟩
          obtain ⟨z, hz⟩ : ∃ z, zs[i5.toNat]? = some z := ⟨_, List.getElem?_eq_getElem (by omega)⟩
          have hat : atI (zs.map V.str) i5 = some (.str z) := by
            have := atI_nat (j := i5.toNat) (v := V.str z) (show (zs.map V.str)[i5.toNat]? = _ by rw [List.getElem?_map, hz]; rfl)
            rwa [Int.toNat_of_nonneg c0] at this
          have l5 := k5 _ _ nld l4
          have eR5 := k5 _ _ nRd (k4 _ _ nRd eR)
          refine ⟨l, _, i5, _, rfl, rfl, SqL.of l5, hat, R, _, rfl, DPut.k (k := Sum.inr z) eR5 (by show 0 < sizeLine; decide), ?_⟩
          rw [putK_new _ rfl]
          have e6 : (upd H5 R (.dK (tkv [(z, u)]))) Lt = some (.lst (ds.map V.ref)) := (upd_ne nRL).trans (k5 _ _ nLd (k4 _ _ nLd (k3 _ _ nLd e2)))
          obtain ⟨ds', ts', q⟩ := fin (r := [(z, u)]) (H4 := upd H5 R (.dK (tkv [(z, u)]))) upd_same ⟨by simp, fun p hp => by rw [List.mem_singleton.mp hp]; exact ⟨List.mem_of_getElem? hz, b0, b1⟩⟩ (by simp) (by simp) (((k3.trans k4).trans k5).mut nR) (D5.upd nRd nRc)
          exact ⟨_, rfl, .inl ⟨rfl, _, SqL.of e6⟩, _, rfl, Lt, _, _, rfl, rfl, e6, small, ds', ts', _, _, _, rfl, q⟩
        · have hr0 : 1 ≤ r.length := by
            refine Nat.one_le_iff_ne_zero.mpr fun z => g (decide_eq_true ?_)
            rw [z]; rfl
          have e6 := k3 _ _ nLd e2
          obtain ⟨ds', ts', q⟩ := fin eR ok hr0 (by omega) k3 D3
          exact ⟨_, rfl, .inl ⟨rfl, _, SqL.of e6⟩, _, rfl, Lt, _, _, rfl, rfl, e6, small, ds', ts', _, _, _, rfl, q⟩
    · rintro σ' H2 ⟨ds, ts, o4, o5, o6, rfl, e2, nds, off, hP, hlen, hR, k2, D2⟩
      refine ⟨_, rfl, Lt, _, rfl, .inl ⟨SqL.of e2, fun t nt => ?_⟩⟩
      have s := same_new (o := .tup (ds.map V.ref)) nt
      have hm : (ts.length : Int) = m := by omega
      refine k t ds ts _ (k2.trans (same_keep s)) (D2.same s) ⟨upd_same, nds, prd_imp hP fun _ _ h => s _ _ h⟩ ⟨by omega, by omega, fun r hr => ?_⟩ hm fun r hr p hp => ((hR r hr).1.ok p hp).1
      obtain ⟨q1, q2, q3⟩ := hR r hr
      exact ⟨q2, q3, q1.nd, fun p hp => ⟨hN _ (q1.ok p hp).1, (q1.ok p hp).2.1, by rw [hm]; exact (q1.ok p hp).2.2⟩⟩
end
end Toy

namespace Toy
open PySem PySem.Spec PyProof.Rows L2
local macro_rules | `(tactic| walk_at "hp") => `(tactic| first
  | assumption
  | exact upd_same
  | (refine Eq.trans (upd_ne (by first | assumption | (apply Ne.symm; assumption))) ?_; walk_at "hp"))
local macro_rules | `(tactic| walk_at "side") => `(tactic| first
  | exact .inl ⟨by omega, by omega⟩
  | exact .inr ⟨by omega, by omega⟩
  | exact ⟨by omega, by omega⟩
  | (show _ ≤ _; omega)
  | (show (_ : Int) < _; omega)
  | decide
  | assumption)
local macro_rules | `(tactic| walk_at "r") => `(tactic| first
  | refine ⟨_, rfl, ?_⟩
  | refine ⟨_, _, rfl, rfl, ?_⟩
  | refine ⟨_, _, _, _, rfl, rfl, SqL.of (by walk_at "hp"), rfl, ?_⟩
  | refine ⟨_, _, _, _, rfl, rfl, SqT.of (by walk_at "hp"), rfl, ?_⟩
  | refine ⟨_, _, _, _, rfl, rfl, (by walk_at "hp"), rfl, ?_⟩
  | refine And.intro rfl ?_
  | refine ⟨_, _, rfl, SqT.of (by walk_at "hp"), ?_⟩
  | refine ⟨_, _, rfl, SqL.of (by walk_at "hp"), ?_⟩
  | refine .inl ⟨_, rfl, ?_⟩
  | refine ⟨_, _, rfl, .inl (SqL.of (by walk_at "hp")), ?_⟩
  | refine ⟨_, _, rfl, .inr (SqT.of (by walk_at "hp")), ?_⟩
  | refine ⟨_, _, rfl, .inl ⟨SqL.of (by walk_at "hp"), ?_⟩⟩
  | refine And.intro (.inl ⟨rfl, _, SqL.of (by walk_at "hp")⟩) ?_
  | refine ⟨_, _, _, rfl, rfl, (by walk_at "hp"), ?_⟩
  | refine ⟨_, _, rfl, (by walk_at "hp"), ?_⟩
  | refine And.intro (by walk_at "side") ?_)
local macro_rules | `(tactic| walk_at "rr") => `(tactic| (repeat walk_at "r"))
local macro_rules | `(tactic| walk_at "k") => `(tactic| first
  | refine ite2 (fun _ => ?_) (fun g => absurd rfl g)
  | refine ite2 (fun g => absurd g (by decide)) (fun _ => ?_)
  | refine ite2 (fun _ => ?_) (fun g => absurd (decide_eq_true (by omega)) g)
  | refine ite2 (fun g => absurd (of_decide_eq_true g) (by omega)) (fun _ => ?_)
  | refine ite2 (fun g => (nd_t g (by omega)).elim) (fun _ => ?_)
  | refine ite2 (fun _ => ?_) (fun g => absurd (nd_f g) (by omega)))
local macro_rules | `(tactic| walk_at "rk") => `(tactic| (repeat (first | walk_at "r" | walk_at "k")))
def Lets0 (E : XK) (C : Addr) (H : Hp) : Prop := ∀ H', Same H H' → E (.ref C) none H'
theorem dec_str {a b : Str} : decide (V.str a = V.str b) = decide (a = b) := by
  rw [Bool.eq_iff_iff, decide_eq_true_iff, decide_eq_true_iff]
  exact ⟨fun z => by injection z, fun z => by rw [z]⟩
theorem StAt.same {CS CT : Addr} {H G : Hp} {q : Addr} {S : Sys} {ts : List (List (Str × Int))} {mo : Str} (A : StAt CS CT H q S ts mo) (k : Same H G) : StAt CS CT G q S ts mo := by
  obtain ⟨dx, p, ta, r, ds, h1, h2, h3, h4⟩ := A.ex
  exact ⟨dx, p, ta, r, ds, k _ _ h1, h2.same k, h3.same k, k _ _ h4⟩
/-- a Steps, whatever it has risen -/
structure StQ (CT : Addr) (H : Hp) (q : Addr) (ts : List (List (Str × Int))) (mo : Str) : Prop where
  ex : ∃ (dx p ta r : Addr) (ds : List Addr), H q = some (.ins CT dx (stf p mo ta r)) ∧ TurnsAt H ta ds ts
theorem StQ.same {CT : Addr} {H G : Hp} {q : Addr} {ts : List (List (Str × Int))} {mo : Str} (A : StQ CT H q ts mo) (k : Same H G) : StQ CT G q ts mo := by
  obtain ⟨dx, p, ta, r, ds, h1, h2⟩ := A.ex
  exact ⟨dx, p, ta, r, ds, k _ _ h1, h2.same k⟩
theorem StAt.q {CS CT : Addr} {H : Hp} {q : Addr} {S : Sys} {ts : List (List (Str × Int))} {mo : Str} (A : StAt CS CT H q S ts mo) : StQ CT H q ts mo := by
  obtain ⟨dx, p, ta, r, ds, h1, _, h3, _⟩ := A.ex
  exact ⟨dx, p, ta, r, ds, h1, h3⟩
def spHints (CT : Addr) : Sp := fun vs H Q _ => ∃ (q : Addr) (ts : List (List (Str × Int))) (mo : Str) (s : Int), vs = [.ref q, .int s] ∧ StQ CT H q ts mo ∧ Turns ts ∧ 0 ≤ s ∧ s < ts.length ∧ ∀ l G, Same H G → H l = none → G l = some (.lst (hintsOf mo (ts.getD s.toNat []))) → Q (.ref l) G
def spAsksAt (CT : Addr) : Sp := fun vs H Q _ => ∃ (q a : Addr) (ts : List (List (Str × Int))) (mo : Str) (s p : Int) (ov hv : V), vs = [.ref q, .ref a] ∧ StQ CT H q ts mo ∧ Turns ts ∧ H a = some (.tup [.int s, .int p, ov, hv]) ∧ 0 ≤ s ∧ s < ts.length ∧ hintB mo (ts.getD s.toNat []) hv = true ∧
  ∀ l G, Same H G → H l = none → AsksAt G l (asksOf mo ts s hv) → Q (.ref l) G
/-- the dict of a turn -/
theorem TurnsAt.row {H : Hp} {ta : Addr} {ds : List Addr} {ts : List (List (Str × Int))} (t : TurnsAt H ta ds ts) {s : Int} (s0 : 0 ≤ s) (s1 : s < ts.length) : ∃ d, atI (ds.map V.ref) s = some (.ref d) ∧ H d = some (.dK (tkv (ts.getD s.toNat []))) ∧ ts.getD s.toNat [] ∈ ts := by
  obtain ⟨row, hrow⟩ : ∃ row, ts[s.toNat]? = some row := ⟨_, List.getElem?_eq_getElem (by omega)⟩
  obtain ⟨d, hd, ed⟩ := prd_at2 t.each hrow
  have er : ts.getD s.toNat [] = row := by rw [List.getD_eq_getElem?_getD, hrow]; rfl
  refine ⟨d, ?_, by rw [er]; exact ed, by rw [er]; exact List.mem_of_getElem? hrow⟩
  have := atI_nat (j := s.toNat) (v := V.ref d) (show (ds.map V.ref)[s.toNat]? = _ by rw [List.getElem?_map, hd]; rfl)
  rwa [Int.toNat_of_nonneg s0] at this
def spStepsAt (K : PySem.W.Frag) (CS CM CT cB : Addr) : Sp := fun vs H Q E => ∃ (p m : Addr) (S : Sys) (M : Mc) (mo : Str) (v : V), vs = [.ref p, .ref m, .str mo, v] ∧ SysOk S ∧ SysAt CS H p S ∧ McAt CM H m M ∧ McOk M ∧ (∀ z ∈ M.ns, z ∈ S.rs.map (·.1)) ∧ mo ∈ modes ∧ Thg2 K H v ∧
  (IsView S.n S.ws M.ts mo H v → ∀ q G, Same H G → StAt CS CT G q S M.ts mo → (∀ dx p ta r, G q = some (.ins CT dx (stf p mo ta r)) → H r = none) → Q (.ref q) G) ∧ (¬ IsView S.n S.ws M.ts mo H v → Lets0 E cB H)
def spAsks (K : PySem.W.Frag) (CS CM cB : Addr) : Sp := fun vs H Q E => ∃ (p m : Addr) (S : Sys) (M : Mc) (mo : Str) (v : V), vs = [.ref p, .ref m, .str mo, v] ∧ SysOk S ∧ SysAt CS H p S ∧ McAt CM H m M ∧ McOk M ∧ (∀ z ∈ M.ns, z ∈ S.rs.map (·.1)) ∧ mo ∈ modes ∧ Thg2 K H v ∧
  (∀ a s p ov hv, IsView S.n S.ws M.ts mo H v → v = .ref a → H a = some (.tup [.int s, .int p, ov, hv]) → 0 ≤ s → s < M.ts.length → hintB mo (M.ts.getD s.toNat []) hv = true → ∀ l G, Same H G → H l = none → AsksAt G l (asksOf mo M.ts s hv) → Q (.ref l) G) ∧ (¬ IsView S.n S.ws M.ts mo H v → Lets0 E cB H)
section
variable {P : Program} {w : World} {K : PySem.W.Frag} {mg : Str → Option Value} {base : Heap}
theorem ok_StepsZhints (T : Top K mg) : OkM P w K mg base CX0 1 T.c_Steps "_hints" ["self", "state"] (spHints T.c_Steps) := by
  refine okM_of T.m_Steps__hints sc_StepsZhints (fun vs H Q E h => ?_) (fun f cdv A outer s H vs Q E hr h => ?_)
  · obtain ⟨q, ts, mo, s, rfl, _⟩ := h
    rfl
  · obtain ⟨q, ts, mo, s, rfl, A, tok, s0, s1, k⟩ := h
    skip
    obtain ⟨dx, p, ta, r, ds, hq, hT⟩ := A.ex
    obtain ⟨d, hd, ed, hm⟩ := hT.row s0 s1
    refine ⟨_, (pss_one (ps_ret (pe_ifExp (pt_cmpR op_eq (pe_fld (pv 0) rfl) pe_str (nomark _)) (pe_lst (pa_cons pe_non pa_nil)) (pe_callB (id := "sorted") (call_sortedD rfl) (by rfl) T.b_sorted (by decide +kernel) (pa_cons (pe_ix ix_tup (pe_fld (pv 0) rfl) (pv 1) (fun _ _ => rfl)) pa_nil))))), ?_⟩
    refine ⟨_, rfl, q, T.c_Steps, dx, _, _, rfl, hq, T.cl_Steps, T.na_Steps_mode, stf_mode, rfl, _, rfl, ?_⟩
    rw [dec_str]
    refine ite2 (fun g => ?_) (fun g => ?_)
    · have g := of_decide_eq_true g
      refine ⟨(by show 1 ≤ sizeLine; decide), fun l nl => k l _ (same_new nl) nl ?_⟩
      rw [upd_same]
      unfold hintsOf
      rw [if_pos g]
    · have g : ¬ mo = "none" := fun z => g (decide_eq_true z)
      refine ⟨_, rfl, q, T.c_Steps, dx, _, _, rfl, hq, T.cl_Steps, T.na_Steps__turns, stf_turns, _, rfl, ta, _, s, _, rfl, rfl, SqT.of hT.tup, hd, d, _, (ts.getD s.toNat []).map (·.1), rfl, .inl ed, ?_, ?_, fun ys l hp hs nl => k l _ (same_new nl) nl ?_⟩
      · unfold tkv; rw [List.map_map, List.map_map]; rfl
      · rw [List.length_map]; have := (tok.row _ hm).2.1; omega
      · rw [upd_same]
        unfold hintsOf
        rw [if_neg g, srtN_eq hp hs]
theorem ok_Steps_asks_at (T : Top K mg) : OkM P w K mg base CX0 2 T.c_Steps "asks_at" ["self", "view"] (spAsksAt T.c_Steps) := by
  refine okM_of T.m_Steps_asks_at sc_Steps_asks_at (fun vs H Q E h => ?_) (fun f cdv A outer s H vs Q E hr h => ?_)
  · obtain ⟨q, a, ts, mo, s, p, ov, hv, rfl, _⟩ := h
    rfl
  · obtain ⟨q, a, ts, mo, s, p, ov, hv, rfl, A, tok, ha, s0, s1, hB, k⟩ := h
    obtain ⟨f__hints, fd__hints, M__hints, b__hints, G__hints⟩ := ok_StepsZhints (P := P) (w := w) (base := base) T
    have hr__hints : Room 1 _ := hr.mono (by decide)
    have hu := hu_of hr
    obtain ⟨dx, p', ta, r, ds, hq, hT⟩ := A.ex
    obtain ⟨d, hd, ed, hm⟩ := hT.row s0 s1
    obtain ⟨row1, row15, rnd, rok⟩ := tok.row _ hm
    unfold asksOf at k
    generalize hrow : ts.getD s.toNat [] = row at *
    refine ⟨_, (pss_cons (ps_set (i := 2) sc_Steps_asks_at.nd rfl (Or.inr rfl) (pe_ix ix_tup (pe_fld (pv 0) rfl) (pe_ix ix_tup (pv 1) pe_int (fun _ _ => rfl)) (fun _ _ => rfl)))
      (pss_cons (ps_set (i := 3) sc_Steps_asks_at.nd rfl (Or.inl rfl) (pe_ix ix_tup (pv 1) pe_int (fun _ _ => rfl)))
      (pss_cons (ps_set (i := 4) sc_Steps_asks_at.nd rfl (Or.inl rfl) (pe_ifExp (PW.pt (pw_and (pt_cmpR op_eq (pe_fld (pv 0) rfl) pe_str (nomark _)) (pw_and1 (pt_cmpR op_notN (pv 3) pe_non (nomark _))))) (pe_lst (pa_cons (pv 3) pa_nil)) (pe_callB (id := "sorted") (call_sortedD rfl) (by rfl) T.b_sorted (by decide +kernel) (pa_cons (pv 2) pa_nil))))
      (pss_one (ps_ret (pe_lc2 (own := [("request", 5), ("after", 6)]) (vs1 := [6]) (g := gName 5) (g1 := gName 6) rfl sc_Steps_asks_at.nd (pi_list (pv 4)) (blkOk_by (own := [("request", 5), ("after", 6)]) (N := ["self", "view", "turn", "hint", "requests", "request", "after"]) (sc := defScope s_Steps_asks_at) (by decide +kernel)) (by decide) (fun _ _ _ _ _ => (pg_name (i := 5) sc_Steps_asks_at.nd rfl (Or.inl rfl))) (fun _ _ _ _ _ => pts_nil) (fun _ _ _ _ _ => (pi_list (pe_meth (pv 0) T.cl_Steps M__hints G__hints hr__hints b__hints .nil pass0 (pa_cons (pe_dget hu (pv 2) (pv 5) (fun _ _ => rfl)) pa_nil)) : PI _ _ _ (iList K _))) (fun _ _ _ _ _ => (pg_name (i := 6) sc_Steps_asks_at.nd rfl (Or.inl rfl))) (fun _ _ _ _ _ => pts_nil) (fun _ _ _ _ _ => (pe_tup (pa_cons (pv 5) (pa_cons (pv 6) pa_nil)))))))))), ?_⟩
    refine ⟨_, rfl, q, T.c_Steps, dx, _, _, rfl, hq, T.cl_Steps, T.na_Steps__turns, stf_turns, _, rfl, a, _, 0, _, rfl, rfl, SqT.of ha, rfl, ta, _, s, _, rfl, rfl, SqT.of hT.tup, hd, ?_⟩
    refine ⟨_, rfl, a, _, 3, _, rfl, rfl, SqT.of ha, rfl, ?_⟩
    refine ⟨_, rfl, q, T.c_Steps, dx, _, _, rfl, hq, T.cl_Steps, T.na_Steps_mode, stf_mode, rfl, _, rfl, ?_⟩
    generalize hzs : reqsOf mo row hv = zs at *
    have hvk : hv = .non ∨ ∃ z, hv = .str z ∧ z ∈ row.map (·.1) := by
      cases hv with
      | non => exact .inl rfl
      | str z => exact .inr ⟨z, rfl, of_decide_eq_true (Bool.and_eq_true_iff.mp (show (!decide (mo = "none") && decide (z ∈ row.map (·.1))) = true from hB)).2⟩
      | _ => exact absurd hB (by simp [hintB])
    refine ite2 (fun g => ?_) (fun g => ?_)
    · rw [dec_str] at g
      have g := of_decide_eq_true g
      refine ⟨_, rfl, rfl, _, rfl, ?_⟩
      refine ite2 (fun g2 => ?_) (fun g2 => ?_)
      · rcases hvk with e | ⟨z, e, mz⟩
        · rw [e] at g2; cases g2
        subst e
        refine ⟨_, rfl, (by show 1 ≤ sizeLine; decide), fun lr nlr => ?_⟩
        have s1' := same_new (o := .lst [.str z]) nlr
        have ezs : zs = [z] := by
          rw [← hzs]
          show (if mo = "true" then [z] else srtN row) = [z]
          rw [if_pos g]
        have er : (upd H lr (.lst [.str z])) lr = some (.lst (zs.map V.str)) := by rw [upd_same, ezs]; rfl
        have sub : ∀ y ∈ zs, y ∈ row.map (·.1) := by
          rw [ezs]
          intro y m
          rw [List.mem_singleton.mp m]; exact mz
        have ln : zs.length ≤ 15 := by
          rw [ezs]
          show 1 ≤ 15
          decide
        generalize upd H lr (.lst [.str z]) = H1 at *
        refine ⟨_, rfl, lr, rfl, ⟨_, SqL.of er⟩, fun D nD => ?_⟩
        refine it_list (K := K) (a := lr) (xs := (zs).map V.str) (fun n G => AsksAt G D (asksFor mo ts row ((zs).take n)) ∧ Same H1 G) ⟨⟨[], upd_same, .nil⟩, same_new nD⟩ (fun n G _ h => SqL.of (h.2 _ _ er)) ?_ ?_
        · rintro n x G hj ⟨AD, sG⟩
          obtain ⟨z, hz, rfl⟩ := map_at hj
          have mz := sub z (List.mem_of_getElem? hz)
          have nl := (List.getElem?_eq_some_iff.mp hz).1
          have s1G := s1'.trans sG
          obtain ⟨tv, pr, mpr, ep, ev⟩ := toOf_val rnd mz
          obtain ⟨_, v0, v1⟩ := rok pr mpr
          rw [ev] at v0 v1
          refine ⟨rfl, ?_⟩
          refine yesT ?_
          refine ⟨_, rfl, q, dx, _, rfl, s1G _ _ hq, stf_no (by decide +kernel) (by decide +kernel) (by decide +kernel) (by decide +kernel), ?_⟩
          refine ⟨_, rfl, _, rfl, d, .int (toOf row z), rfl, (by rw [← tv]; exact DGet.k (k := Sum.inr z) (s1G _ _ ed)), ?_⟩
          refine ⟨q, ts, mo, toOf row z, rfl, A.same s1G, tok, v0, v1, fun l2 G2 s2 nl2 e2 => ?_⟩
          refine ⟨l2, rfl, ⟨_, SqL.of e2⟩, ?_⟩
          have AD2 := AD.same s2
          have nl2D : l2 ≠ D := fun z => by
            obtain ⟨us, e, _⟩ := AD.ex
            rw [z, e] at nl2; cases nl2
          have hlen : ∀ z ∈ zs, (hintsOf mo (ts.getD (toOf row z).toNat [])).length ≤ 15 := fun z mz => by
            obtain ⟨_, pr, mpr, ep, ev⟩ := toOf_val rnd (sub z mz)
            obtain ⟨_, v0, v1⟩ := rok pr mpr
            rw [ev] at v0 v1
            obtain ⟨_, _, _, hm2⟩ := hT.row v0 v1
            exact Nat.le_trans (hintsOf_len (tok.row _ hm2).1) (tok.row _ hm2).2.1
          have tot : (asksFor mo ts row ((zs).take n)).length ≤ 15 * 15 := by
            refine Nat.le_trans (asksFor_len fun z m => hlen z (List.mem_of_mem_take m)) ?_
            rw [List.length_take]
            exact Nat.mul_le_mul_left 15 (Nat.le_trans (Nat.min_le_right _ _) ln)
          refine it_list (K := K) (a := l2) (xs := hintsOf mo (ts.getD (toOf row z).toNat [])) (fun k G => AsksAt G D (asksFor mo ts row ((zs).take n) ++ ((hintsOf mo (ts.getD (toOf row z).toNat [])).take k).map fun h => (z, h)) ∧ Same H1 G ∧ G l2 = some (.lst (hintsOf mo (ts.getD (toOf row z).toNat [])))) ⟨by simpa using AD2, sG.trans s2, e2⟩ (fun k G _ h => SqL.of h.2.2) ?_ ?_
          · rintro k y G3 hk ⟨A3, s3, e3⟩
            refine ⟨rfl, ?_⟩
            refine yesT ?_
            refine ⟨_, rfl, _, rfl, (by show 2 ≤ sizeLine; decide), fun t nt => ?_⟩
            obtain ⟨us, eD, lenU, A4⟩ := A3.add nt (z, y)
            refine ⟨us, eD, ?_, ?_, same_upd (s3.trans (same_new nt)) nD, (upd_ne nl2D).trans (same_new nt _ _ e3)⟩
            · rw [lenU, List.length_append, List.length_map, List.length_take]
              have hk2 := (List.getElem?_eq_some_iff.mp hk).1
              have := hlen z (List.mem_of_getElem? hz)
              exact small1000 (by omega)
            · rw [List.take_add_one, hk, List.map_append, ← List.append_assoc]
              exact A4
          · rintro G3 ⟨A3, s3, e3⟩
            rw [List.take_length] at A3
            refine ⟨?_, s3⟩
            rw [List.take_add_one, hz]
            show AsksAt G3 D (asksFor mo ts row (_ ++ [z]))
            rw [asksFor_snoc]
            exact A3
        · rintro G ⟨AD, sG⟩
          rw [List.length_map, List.take_length] at AD
          exact k D G (s1'.trans sG) (by
            cases z : H D with
            | none => rfl
            | some o => rw [s1' _ _ z] at nD; cases nD) AD
      · rcases hvk with e | ⟨z, e, mz⟩
        · subst e
          have hrq : zs = srtN row := hzs.symm
          refine ⟨_, rfl, d, _, row.map (·.1), rfl, .inl ed, ?_, ?_, fun ys lr hp hs nlr => ?_⟩
          · unfold tkv; rw [List.map_map, List.map_map]; rfl
          · rw [List.length_map]; omega
          have s1' := same_new (o := .lst (ys.map V.str)) nlr
          have eys := srtN_eq hp hs
          have er : (upd H lr (.lst (ys.map V.str))) lr = some (.lst ((zs).map V.str)) := by rw [upd_same, hrq, eys]
          have sub : ∀ y ∈ zs, y ∈ row.map (·.1) := by
            rw [hrq, ← eys]
            exact fun y m => hp.mem_iff.mp m
          have ln : (zs).length ≤ 15 := by
            rw [hrq]
            exact Nat.le_trans (srtN_len row) row15
          generalize upd H lr (.lst (ys.map V.str)) = H1 at *
          refine ⟨_, rfl, lr, rfl, ⟨_, SqL.of er⟩, fun D nD => ?_⟩
          refine it_list (K := K) (a := lr) (xs := (zs).map V.str) (fun n G => AsksAt G D (asksFor mo ts row ((zs).take n)) ∧ Same H1 G) ⟨⟨[], upd_same, .nil⟩, same_new nD⟩ (fun n G _ h => SqL.of (h.2 _ _ er)) ?_ ?_
          · rintro n x G hj ⟨AD, sG⟩
            obtain ⟨z, hz, rfl⟩ := map_at hj
            have mz := sub z (List.mem_of_getElem? hz)
            have nl := (List.getElem?_eq_some_iff.mp hz).1
            have s1G := s1'.trans sG
            obtain ⟨tv, pr, mpr, ep, ev⟩ := toOf_val rnd mz
            obtain ⟨_, v0, v1⟩ := rok pr mpr
            rw [ev] at v0 v1
            refine ⟨rfl, ?_⟩
            refine yesT ?_
            refine ⟨_, rfl, q, dx, _, rfl, s1G _ _ hq, stf_no (by decide +kernel) (by decide +kernel) (by decide +kernel) (by decide +kernel), ?_⟩
            refine ⟨_, rfl, _, rfl, d, .int (toOf row z), rfl, (by rw [← tv]; exact DGet.k (k := Sum.inr z) (s1G _ _ ed)), ?_⟩
            refine ⟨q, ts, mo, toOf row z, rfl, A.same s1G, tok, v0, v1, fun l2 G2 s2 nl2 e2 => ?_⟩
            refine ⟨l2, rfl, ⟨_, SqL.of e2⟩, ?_⟩
            have AD2 := AD.same s2
            have nl2D : l2 ≠ D := fun z => by
              obtain ⟨us, e, _⟩ := AD.ex
              rw [z, e] at nl2; cases nl2
            have hlen : ∀ z ∈ zs, (hintsOf mo (ts.getD (toOf row z).toNat [])).length ≤ 15 := fun z mz => by
              obtain ⟨_, pr, mpr, ep, ev⟩ := toOf_val rnd (sub z mz)
              obtain ⟨_, v0, v1⟩ := rok pr mpr
              rw [ev] at v0 v1
              obtain ⟨_, _, _, hm2⟩ := hT.row v0 v1
              exact Nat.le_trans (hintsOf_len (tok.row _ hm2).1) (tok.row _ hm2).2.1
            have tot : (asksFor mo ts row ((zs).take n)).length ≤ 15 * 15 := by
              refine Nat.le_trans (asksFor_len fun z m => hlen z (List.mem_of_mem_take m)) ?_
              rw [List.length_take]
              exact Nat.mul_le_mul_left 15 (Nat.le_trans (Nat.min_le_right _ _) ln)
            refine it_list (K := K) (a := l2) (xs := hintsOf mo (ts.getD (toOf row z).toNat [])) (fun k G => AsksAt G D (asksFor mo ts row ((zs).take n) ++ ((hintsOf mo (ts.getD (toOf row z).toNat [])).take k).map fun h => (z, h)) ∧ Same H1 G ∧ G l2 = some (.lst (hintsOf mo (ts.getD (toOf row z).toNat [])))) ⟨by simpa using AD2, sG.trans s2, e2⟩ (fun k G _ h => SqL.of h.2.2) ?_ ?_
            · rintro k y G3 hk ⟨A3, s3, e3⟩
              refine ⟨rfl, ?_⟩
              refine yesT ?_
              refine ⟨_, rfl, _, rfl, (by show 2 ≤ sizeLine; decide), fun t nt => ?_⟩
              obtain ⟨us, eD, lenU, A4⟩ := A3.add nt (z, y)
              refine ⟨us, eD, ?_, ?_, same_upd (s3.trans (same_new nt)) nD, (upd_ne nl2D).trans (same_new nt _ _ e3)⟩
              · rw [lenU, List.length_append, List.length_map, List.length_take]
                have hk2 := (List.getElem?_eq_some_iff.mp hk).1
                have := hlen z (List.mem_of_getElem? hz)
                exact small1000 (by omega)
              · rw [List.take_add_one, hk, List.map_append, ← List.append_assoc]
                exact A4
            · rintro G3 ⟨A3, s3, e3⟩
              rw [List.take_length] at A3
              refine ⟨?_, s3⟩
              rw [List.take_add_one, hz]
              show AsksAt G3 D (asksFor mo ts row (_ ++ [z]))
              rw [asksFor_snoc]
              exact A3
          · rintro G ⟨AD, sG⟩
            rw [List.length_map, List.take_length] at AD
            exact k D G (s1'.trans sG) (by
              cases z : H D with
              | none => rfl
              | some o => rw [s1' _ _ z] at nD; cases nD) AD
        · subst e; exact absurd rfl g2
    · have g : ¬ mo = "true" := fun z => g (by rw [dec_str]; exact decide_eq_true z)
      have hrq : zs = srtN row := by
        rw [← hzs]
        cases hv with
        | str z => show (if mo = "true" then [z] else srtN row) = _; rw [if_neg g]
        | _ => rfl
      refine ⟨_, rfl, d, _, row.map (·.1), rfl, .inl ed, ?_, ?_, fun ys lr hp hs nlr => ?_⟩
      · unfold tkv; rw [List.map_map, List.map_map]; rfl
      · rw [List.length_map]; omega
      have s1' := same_new (o := .lst (ys.map V.str)) nlr
      have eys := srtN_eq hp hs
      have er : (upd H lr (.lst (ys.map V.str))) lr = some (.lst ((zs).map V.str)) := by rw [upd_same, hrq, eys]
      have sub : ∀ y ∈ zs, y ∈ row.map (·.1) := by
        rw [hrq, ← eys]
        exact fun y m => hp.mem_iff.mp m
      have ln : (zs).length ≤ 15 := by
        rw [hrq]
        exact Nat.le_trans (srtN_len row) row15
      generalize upd H lr (.lst (ys.map V.str)) = H1 at *
      refine ⟨_, rfl, lr, rfl, ⟨_, SqL.of er⟩, fun D nD => ?_⟩
      refine it_list (K := K) (a := lr) (xs := (zs).map V.str) (fun n G => AsksAt G D (asksFor mo ts row ((zs).take n)) ∧ Same H1 G) ⟨⟨[], upd_same, .nil⟩, same_new nD⟩ (fun n G _ h => SqL.of (h.2 _ _ er)) ?_ ?_
      · rintro n x G hj ⟨AD, sG⟩
        obtain ⟨z, hz, rfl⟩ := map_at hj
        have mz := sub z (List.mem_of_getElem? hz)
        have nl := (List.getElem?_eq_some_iff.mp hz).1
        have s1G := s1'.trans sG
        obtain ⟨tv, pr, mpr, ep, ev⟩ := toOf_val rnd mz
        obtain ⟨_, v0, v1⟩ := rok pr mpr
        rw [ev] at v0 v1
        refine ⟨rfl, ?_⟩
        refine yesT ?_
        refine ⟨_, rfl, q, dx, _, rfl, s1G _ _ hq, stf_no (by decide +kernel) (by decide +kernel) (by decide +kernel) (by decide +kernel), ?_⟩
        refine ⟨_, rfl, _, rfl, d, .int (toOf row z), rfl, (by rw [← tv]; exact DGet.k (k := Sum.inr z) (s1G _ _ ed)), ?_⟩
        refine ⟨q, ts, mo, toOf row z, rfl, A.same s1G, tok, v0, v1, fun l2 G2 s2 nl2 e2 => ?_⟩
        refine ⟨l2, rfl, ⟨_, SqL.of e2⟩, ?_⟩
        have AD2 := AD.same s2
        have nl2D : l2 ≠ D := fun z => by
          obtain ⟨us, e, _⟩ := AD.ex
          rw [z, e] at nl2; cases nl2
        have hlen : ∀ z ∈ zs, (hintsOf mo (ts.getD (toOf row z).toNat [])).length ≤ 15 := fun z mz => by
          obtain ⟨_, pr, mpr, ep, ev⟩ := toOf_val rnd (sub z mz)
          obtain ⟨_, v0, v1⟩ := rok pr mpr
          rw [ev] at v0 v1
          obtain ⟨_, _, _, hm2⟩ := hT.row v0 v1
          exact Nat.le_trans (hintsOf_len (tok.row _ hm2).1) (tok.row _ hm2).2.1
        have tot : (asksFor mo ts row ((zs).take n)).length ≤ 15 * 15 := by
          refine Nat.le_trans (asksFor_len fun z m => hlen z (List.mem_of_mem_take m)) ?_
          rw [List.length_take]
          exact Nat.mul_le_mul_left 15 (Nat.le_trans (Nat.min_le_right _ _) ln)
        refine it_list (K := K) (a := l2) (xs := hintsOf mo (ts.getD (toOf row z).toNat [])) (fun k G => AsksAt G D (asksFor mo ts row ((zs).take n) ++ ((hintsOf mo (ts.getD (toOf row z).toNat [])).take k).map fun h => (z, h)) ∧ Same H1 G ∧ G l2 = some (.lst (hintsOf mo (ts.getD (toOf row z).toNat [])))) ⟨by simpa using AD2, sG.trans s2, e2⟩ (fun k G _ h => SqL.of h.2.2) ?_ ?_
        · rintro k y G3 hk ⟨A3, s3, e3⟩
          refine ⟨rfl, ?_⟩
          refine yesT ?_
          refine ⟨_, rfl, _, rfl, (by show 2 ≤ sizeLine; decide), fun t nt => ?_⟩
          obtain ⟨us, eD, lenU, A4⟩ := A3.add nt (z, y)
          refine ⟨us, eD, ?_, ?_, same_upd (s3.trans (same_new nt)) nD, (upd_ne nl2D).trans (same_new nt _ _ e3)⟩
          · rw [lenU, List.length_append, List.length_map, List.length_take]
            have hk2 := (List.getElem?_eq_some_iff.mp hk).1
            have := hlen z (List.mem_of_getElem? hz)
            exact small1000 (by omega)
          · rw [List.take_add_one, hk, List.map_append, ← List.append_assoc]
            exact A4
        · rintro G3 ⟨A3, s3, e3⟩
          rw [List.take_length] at A3
          refine ⟨?_, s3⟩
          rw [List.take_add_one, hz]
          show AsksAt G3 D (asksFor mo ts row (_ ++ [z]))
          rw [asksFor_snoc]
          exact A3
      · rintro G ⟨AD, sG⟩
        rw [List.length_map, List.take_length] at AD
        exact k D G (s1'.trans sG) (by
          cases z : H D with
          | none => rfl
          | some o => rw [s1' _ _ z] at nD; cases nD) AD
end
end Toy

namespace Toy
open PySem PySem.Spec PyProof.Rows L2
local macro_rules | `(tactic| walk_at "hp") => `(tactic| first
  | assumption
  | exact upd_same
  | (refine Eq.trans (upd_ne (by first | assumption | (apply Ne.symm; assumption))) ?_; walk_at "hp"))
local macro_rules | `(tactic| walk_at "side") => `(tactic| first
  | exact .inl ⟨by omega, by omega⟩
  | exact .inr ⟨by omega, by omega⟩
  | exact ⟨by omega, by omega⟩
  | (show _ ≤ _; omega)
  | (show (_ : Int) < _; omega)
  | decide
  | assumption)
local macro_rules | `(tactic| walk_at "r") => `(tactic| first
  | refine ⟨_, rfl, ?_⟩
  | refine ⟨_, _, rfl, rfl, ?_⟩
  | refine ⟨_, _, _, _, rfl, rfl, SqL.of (by walk_at "hp"), rfl, ?_⟩
  | refine ⟨_, _, _, _, rfl, rfl, SqT.of (by walk_at "hp"), rfl, ?_⟩
  | refine ⟨_, _, _, _, rfl, rfl, (by walk_at "hp"), rfl, ?_⟩
  | refine And.intro rfl ?_
  | refine ⟨_, _, rfl, SqT.of (by walk_at "hp"), ?_⟩
  | refine ⟨_, _, rfl, SqL.of (by walk_at "hp"), ?_⟩
  | refine .inl ⟨_, rfl, ?_⟩
  | refine ⟨_, _, rfl, .inl (SqL.of (by walk_at "hp")), ?_⟩
  | refine ⟨_, _, rfl, .inr (SqT.of (by walk_at "hp")), ?_⟩
  | refine ⟨_, _, rfl, .inl ⟨SqL.of (by walk_at "hp"), ?_⟩⟩
  | refine And.intro (.inl ⟨rfl, _, SqL.of (by walk_at "hp")⟩) ?_
  | refine ⟨_, _, _, rfl, rfl, (by walk_at "hp"), ?_⟩
  | refine ⟨_, _, rfl, (by walk_at "hp"), ?_⟩
  | refine And.intro (by walk_at "side") ?_)
local macro_rules | `(tactic| walk_at "rr") => `(tactic| (repeat walk_at "r"))
local macro_rules | `(tactic| walk_at "k") => `(tactic| first
  | refine ite2 (fun _ => ?_) (fun g => absurd rfl g)
  | refine ite2 (fun g => absurd g (by decide)) (fun _ => ?_)
  | refine ite2 (fun _ => ?_) (fun g => absurd (decide_eq_true (by omega)) g)
  | refine ite2 (fun g => absurd (of_decide_eq_true g) (by omega)) (fun _ => ?_)
  | refine ite2 (fun g => (nd_t g (by omega)).elim) (fun _ => ?_)
  | refine ite2 (fun _ => ?_) (fun g => absurd (nd_f g) (by omega)))
local macro_rules | `(tactic| walk_at "rk") => `(tactic| (repeat (first | walk_at "r" | walk_at "k")))
theorem tkv_keys (r : List (Str × Int)) : (tkv r).map (·.1) = (r.map (·.1)).map Sum.inr := by
  unfold tkv
  rw [List.map_map, List.map_map]; rfl
/-- a hint as a value: nothing or a text -/
def Flat1 (v : V) : Prop := v = .non ∨ ∃ z, v = .str z
theorem Flat1.dat {v : V} (f : Flat1 v) {A : Addr → Prop} {H : Hp} : Dat A H v := by
  rcases f with rfl | ⟨z, rfl⟩
  · exact .non
  · exact .str z
theorem Dat.thg {A : Addr → Prop} {K : PySem.W.Frag} {H : Hp} {v : V} (D : Dat A H v) : Thg K H v := by
  obtain ⟨n, hn⟩ := D.ty
  refine ⟨⟨n, .blt hn⟩, fun a xs e h x m => ?_⟩
  subst e
  cases D with
  | lst _ _ _ h2 _ => rw [h2] at h; cases h
  | tup _ _ _ h2 h3 => rw [h2] at h; cases h; exact (h3 x m).ty
  | dK _ _ _ h2 _ => rw [h2] at h; cases h
theorem Dat.thg2 {A : Addr → Prop} {K : PySem.W.Frag} {H : Hp} {v : V} (D : Dat A H v) : Thg2 K H v := by
  refine ⟨D.thg, fun a xs e h x m => ?_⟩
  subst e
  cases D with
  | lst _ _ _ h2 _ => rw [h2] at h; cases h
  | tup _ _ _ h2 h3 => rw [h2] at h; cases h; exact (h3 x m).thg
  | dK _ _ _ h2 _ => rw [h2] at h; cases h
def spLawView : Sp := fun vs H Q _ => ∃ (d c L ta : Addr) (ds : List Addr) (ts : List (List (Str × Int))) (mo : Str) (MM : Nat → Nat → Int) (n : Int) (ws : List (List Int)), vs = [.ref d, .ref L, .ref ta, .str mo] ∧ Dice c H d ∧ L ≠ d ∧ LM H L n.toNat MM ∧ (∀ i j, i < n.toNat → j < n.toNat → MM i j = mat ws i j) ∧ Met n.toNat ws ∧ 1 ≤ n ∧ n ≤ 6 ∧
  TurnsAt H ta ds ts ∧ Turns ts ∧ ∀ (a oa : Addr) (s p : Int) (off : List Int) (hv : V) (G : Hp), Keep d H G → Dice c G d → G a = some (.tup [.int s, .int p, .ref oa, hv]) → G oa = some (.tup (off.map V.int)) → 0 ≤ s → s < ts.length → 0 ≤ p → p < n → OffOk n.toNat ws off → Flat1 hv → hintB mo (ts.getD s.toNat []) hv = true → Q (.ref a) G
section
variable {P : Program} {w : World} {K : PySem.W.Frag} {mg : Str → Option Value} {base : Heap}
end
end Toy

namespace Toy
open PySem PySem.Spec PyProof.Rows L2
local macro_rules | `(tactic| walk_at "hp") => `(tactic| first
  | assumption
  | exact upd_same
  | (refine Eq.trans (upd_ne (by first | assumption | (apply Ne.symm; assumption))) ?_; walk_at "hp"))
local macro_rules | `(tactic| walk_at "side") => `(tactic| first
  | exact .inl ⟨by omega, by omega⟩
  | exact .inr ⟨by omega, by omega⟩
  | exact ⟨by omega, by omega⟩
  | (show _ ≤ _; omega)
  | (show (_ : Int) < _; omega)
  | decide
  | assumption)
local macro_rules | `(tactic| walk_at "r") => `(tactic| first
  | refine ⟨_, rfl, ?_⟩
  | refine ⟨_, _, rfl, rfl, ?_⟩
  | refine ⟨_, _, _, _, rfl, rfl, SqL.of (by walk_at "hp"), rfl, ?_⟩
  | refine ⟨_, _, _, _, rfl, rfl, SqT.of (by walk_at "hp"), rfl, ?_⟩
  | refine ⟨_, _, _, _, rfl, rfl, (by walk_at "hp"), rfl, ?_⟩
  | refine And.intro rfl ?_
  | refine ⟨_, _, rfl, SqT.of (by walk_at "hp"), ?_⟩
  | refine ⟨_, _, rfl, SqL.of (by walk_at "hp"), ?_⟩
  | refine .inl ⟨_, rfl, ?_⟩
  | refine ⟨_, _, rfl, .inl (SqL.of (by walk_at "hp")), ?_⟩
  | refine ⟨_, _, rfl, .inr (SqT.of (by walk_at "hp")), ?_⟩
  | refine ⟨_, _, rfl, .inl ⟨SqL.of (by walk_at "hp"), ?_⟩⟩
  | refine And.intro (.inl ⟨rfl, _, SqL.of (by walk_at "hp")⟩) ?_
  | refine ⟨_, _, _, rfl, rfl, (by walk_at "hp"), ?_⟩
  | refine ⟨_, _, rfl, (by walk_at "hp"), ?_⟩
  | refine And.intro (by walk_at "side") ?_)
local macro_rules | `(tactic| walk_at "rr") => `(tactic| (repeat walk_at "r"))
local macro_rules | `(tactic| walk_at "k") => `(tactic| first
  | refine ite2 (fun _ => ?_) (fun g => absurd rfl g)
  | refine ite2 (fun g => absurd g (by decide)) (fun _ => ?_)
  | refine ite2 (fun _ => ?_) (fun g => absurd (decide_eq_true (by omega)) g)
  | refine ite2 (fun g => absurd (of_decide_eq_true g) (by omega)) (fun _ => ?_)
  | refine ite2 (fun g => (nd_t g (by omega)).elim) (fun _ => ?_)
  | refine ite2 (fun _ => ?_) (fun g => absurd (nd_f g) (by omega)))
local macro_rules | `(tactic| walk_at "rk") => `(tactic| (repeat (first | walk_at "r" | walk_at "k")))
theorem low_ok {z : Str} (h : Low z) : PyData.strOk z = true := by
  unfold PyData.strOk
  rw [Array.all_eq_true]
  intro i hi
  have := h.c z.cps[i] (Array.mem_toList_iff.mpr (Array.getElem_mem hi))
  exact decide_eq_true (by omega)
theorem shaped_low {z : Str} (h : Low z) : SeqAt.shaped (.str z) = true := by
  show (PyData.canLay0 (.str z) && decide (PyData.depth (.str z) ≤ 64)) = true
  rw [show PyData.canLay0 (.str z) = true from by simp [PyData.canLay0, low_ok h], decide_eq_true (by simp [PyData.depth])]; rfl
theorem eqv_str {a b : Str} : PyData.eqv (.str a) (.str b) = decide (a = b) := by
  rw [Bool.eq_iff_iff, decide_eq_true_iff]
  simp [PyData.eqv]
/-- a request that a view lets be asked -/
def letB (mo : Str) (hv : V) (z : Str) : Bool := !decide (mo = "true") || (decide (hv = .non) || decide (hv = .str z))
theorem filter_one {z : Str} : ∀ {l : List Str}, l.Nodup → z ∈ l → (l.filter fun y => decide (V.str z = V.str y)) = [z]
  | [], _, h => by cases h
  | y :: l, nd, h => by
    have ⟨n1, n2⟩ := List.nodup_cons.mp nd
    by_cases e : y = z
    · subst e
      rw [List.filter_cons_of_pos (by simp)]
      congr 1
      rw [List.filter_eq_nil_iff]
      intro x m e
      have e := of_decide_eq_true e
      injection e with e
      exact n1 (e ▸ m)
    · rw [List.filter_cons_of_neg (by rw [decide_eq_true_iff]; intro q; injection q with q; exact e q.symm)]
      exact filter_one n2 ((List.mem_cons.mp h).resolve_left fun q => e q.symm)
theorem let_reqs {mo : Str} {row : List (Str × Int)} {hv : V} (nd : (srtN row).Nodup) (h : hv = .non ∨ ∃ z, hv = .str z ∧ z ∈ srtN row) : (srtN row).filter (letB mo hv) = reqsOf mo row hv := by
  by_cases e : mo = "true"
  · rcases h with rfl | ⟨z, rfl, m⟩
    · show (srtN row).filter (letB mo .non) = srtN row
      rw [List.filter_eq_self]
      intro y _
      simp [letB]
    · show (srtN row).filter (letB mo (.str z)) = (if mo = "true" then [z] else srtN row)
      rw [if_pos e]
      have : letB mo (.str z) = fun y => decide (V.str z = V.str y) := by
        funext y
        unfold letB
        rw [decide_eq_true e]
        rfl
      rw [this]
      exact filter_one nd m
  · have : reqsOf mo row hv = srtN row := by
      cases hv with
      | str z => show (if mo = "true" then [z] else srtN row) = _; rw [if_neg e]
      | _ => rfl
    rw [this, List.filter_eq_self]
    intro y _
    unfold letB
    rw [decide_eq_false e]
    rfl
def spLawAsks : Sp := fun vs H Q _ => ∃ (ta a : Addr) (ds : List Addr) (ts : List (List (Str × Int))) (mo : Str) (s p : Int) (ov hv : V), vs = [.ref ta, .str mo, .ref a] ∧ TurnsAt H ta ds ts ∧ Turns ts ∧ H a = some (.tup [.int s, .int p, ov, hv]) ∧ 0 ≤ s ∧ s < ts.length ∧ hintB mo (ts.getD s.toNat []) hv = true ∧
  ∀ l G, Same H G → H l = none → AsksAt G l (asksOf mo ts s hv) → Q (.ref l) G
section
variable {P : Program} {w : World} {K : PySem.W.Frag} {mg : Str → Option Value} {base : Heap}
end
end Toy

namespace Toy
open PySem PySem.Spec PyProof.Rows L2
local macro_rules | `(tactic| walk_at "hp") => `(tactic| first
  | assumption
  | exact upd_same
  | (refine Eq.trans (upd_ne (by first | assumption | (apply Ne.symm; assumption))) ?_; walk_at "hp"))
local macro_rules | `(tactic| walk_at "side") => `(tactic| first
  | exact .inl ⟨by omega, by omega⟩
  | exact .inr ⟨by omega, by omega⟩
  | exact ⟨by omega, by omega⟩
  | (show _ ≤ _; omega)
  | (show (_ : Int) < _; omega)
  | decide
  | assumption)
local macro_rules | `(tactic| walk_at "r") => `(tactic| first
  | refine ⟨_, rfl, ?_⟩
  | refine ⟨_, _, rfl, rfl, ?_⟩
  | refine ⟨_, _, _, _, rfl, rfl, SqL.of (by walk_at "hp"), rfl, ?_⟩
  | refine ⟨_, _, _, _, rfl, rfl, SqT.of (by walk_at "hp"), rfl, ?_⟩
  | refine ⟨_, _, _, _, rfl, rfl, (by walk_at "hp"), rfl, ?_⟩
  | refine And.intro rfl ?_
  | refine ⟨_, _, rfl, SqT.of (by walk_at "hp"), ?_⟩
  | refine ⟨_, _, rfl, SqL.of (by walk_at "hp"), ?_⟩
  | refine .inl ⟨_, rfl, ?_⟩
  | refine ⟨_, _, rfl, .inl (SqL.of (by walk_at "hp")), ?_⟩
  | refine ⟨_, _, rfl, .inr (SqT.of (by walk_at "hp")), ?_⟩
  | refine ⟨_, _, rfl, .inl ⟨SqL.of (by walk_at "hp"), ?_⟩⟩
  | refine And.intro (.inl ⟨rfl, _, SqL.of (by walk_at "hp")⟩) ?_
  | refine ⟨_, _, _, rfl, rfl, (by walk_at "hp"), ?_⟩
  | refine ⟨_, _, rfl, (by walk_at "hp"), ?_⟩
  | refine And.intro (by walk_at "side") ?_)
local macro_rules | `(tactic| walk_at "rr") => `(tactic| (repeat walk_at "r"))
local macro_rules | `(tactic| walk_at "k") => `(tactic| first
  | refine ite2 (fun _ => ?_) (fun g => absurd rfl g)
  | refine ite2 (fun g => absurd g (by decide)) (fun _ => ?_)
  | refine ite2 (fun _ => ?_) (fun g => absurd (decide_eq_true (by omega)) g)
  | refine ite2 (fun g => absurd (of_decide_eq_true g) (by omega)) (fun _ => ?_)
  | refine ite2 (fun g => (nd_t g (by omega)).elim) (fun _ => ?_)
  | refine ite2 (fun _ => ?_) (fun g => absurd (nd_f g) (by omega)))
local macro_rules | `(tactic| walk_at "rk") => `(tactic| (repeat (first | walk_at "r" | walk_at "k")))
/-- an ask whose texts can be laid -/
def AskOk (p : Str × V) : Prop := Low p.1 ∧ (p.2 = .non ∨ ∃ z, p.2 = .str z ∧ Low z)
theorem ask_dp {K : PySem.W.Frag} {p : Str × V} (k : AskOk p) : ∃ d, SeqAt.shaped d = true ∧ PyData.eqv d d = true ∧ ∀ {H : Hp} {t : Addr}, H t = some (.tup [.str p.1, p.2]) → Dp K H (.ref t) d := by
  obtain ⟨h1, h2⟩ := k
  rcases h2 with h2 | ⟨z, h2, h3⟩
  · have lay : PyData.canLay0 (.tuple [.str p.1, .none]) = true := by simp [PyData.canLay0, PyData.canLayAll0, low_ok h1]
    refine ⟨.tuple [.str p.1, .none], ?_, SeqAt.eqv_refl _ lay, fun {H t} e => .tup (SqT.of e) (.cons (.str _) (by rw [h2]; exact .cons .non .nil))⟩
    show (PyData.canLay0 _ && decide (PyData.depth _ ≤ 64)) = true
    rw [lay, decide_eq_true (by simp [PyData.depth, PyData.depthAll])]; rfl
  · have lay : PyData.canLay0 (.tuple [.str p.1, .str z]) = true := by simp [PyData.canLay0, PyData.canLayAll0, low_ok h1, low_ok h3]
    refine ⟨.tuple [.str p.1, .str z], ?_, SeqAt.eqv_refl _ lay, fun {H t} e => .tup (SqT.of e) (.cons (.str _) (by rw [h2]; exact .cons (.str _) .nil))⟩
    show (PyData.canLay0 _ && decide (PyData.depth _ ≤ 64)) = true
    rw [lay, decide_eq_true (by simp [PyData.depth, PyData.depthAll])]; rfl
def spLawTold (K : PySem.W.Frag) (CS CM : Addr) : Sp := fun vs H Q _ => ∃ (p m : Addr) (S : Sys) (M : Mc) (mo : Str) (v : V), vs = [.ref p, .ref m, .str mo, v] ∧ SysOk S ∧ SysAt CS H p S ∧ McAt CM H m M ∧ McOk M ∧ (∀ z ∈ M.ns, z ∈ S.rs.map (·.1)) ∧ mo ∈ modes ∧ Thg2 K H v ∧
  (∀ a s p ov hv, IsView S.n S.ws M.ts mo H v → v = .ref a → H a = some (.tup [.int s, .int p, ov, hv]) → 0 ≤ s → s < M.ts.length → hintB mo (M.ts.getD s.toNat []) hv = true → ∀ t l G, Same H G → G t = some (.tup [.str "told", .ref l]) → AsksAt G l (asksOf mo M.ts s hv) → Q (.ref t) G) ∧
  (¬ IsView S.n S.ws M.ts mo H v → ∀ t G, Same H G → G t = some (.tup [.str "refused", .non]) → Q (.ref t) G)
def spLawSame : Sp := fun vs H Q _ => ∃ (l l2 : Addr) (ps : List (Str × V)), vs = [.ref l, .ref l2] ∧ AsksAt H l ps ∧ AsksAt H l2 ps ∧ ps.length ≤ 900 ∧ (∀ p ∈ ps, AskOk p) ∧ Q (.bl true) H
section
variable {P : Program} {w : World} {K : PySem.W.Frag} {mg : Str → Option Value} {base : Heap}
end
end Toy

namespace Toy
open PySem PySem.Spec PyProof.Rows L2
local macro_rules | `(tactic| walk_at "hp") => `(tactic| first
  | assumption
  | exact upd_same
  | (refine Eq.trans (upd_ne (by first | assumption | (apply Ne.symm; assumption))) ?_; walk_at "hp"))
local macro_rules | `(tactic| walk_at "side") => `(tactic| first
  | exact .inl ⟨by omega, by omega⟩
  | exact .inr ⟨by omega, by omega⟩
  | exact ⟨by omega, by omega⟩
  | (show _ ≤ _; omega)
  | (show (_ : Int) < _; omega)
  | decide
  | assumption)
local macro_rules | `(tactic| walk_at "r") => `(tactic| first
  | refine ⟨_, rfl, ?_⟩
  | refine ⟨_, _, rfl, rfl, ?_⟩
  | refine ⟨_, _, _, _, rfl, rfl, SqL.of (by walk_at "hp"), rfl, ?_⟩
  | refine ⟨_, _, _, _, rfl, rfl, SqT.of (by walk_at "hp"), rfl, ?_⟩
  | refine ⟨_, _, _, _, rfl, rfl, (by walk_at "hp"), rfl, ?_⟩
  | refine And.intro rfl ?_
  | refine ⟨_, _, rfl, SqT.of (by walk_at "hp"), ?_⟩
  | refine ⟨_, _, rfl, SqL.of (by walk_at "hp"), ?_⟩
  | refine .inl ⟨_, rfl, ?_⟩
  | refine ⟨_, _, rfl, .inl (SqL.of (by walk_at "hp")), ?_⟩
  | refine ⟨_, _, rfl, .inr (SqT.of (by walk_at "hp")), ?_⟩
  | refine ⟨_, _, rfl, .inl ⟨SqL.of (by walk_at "hp"), ?_⟩⟩
  | refine And.intro (.inl ⟨rfl, _, SqL.of (by walk_at "hp")⟩) ?_
  | refine ⟨_, _, _, rfl, rfl, (by walk_at "hp"), ?_⟩
  | refine ⟨_, _, rfl, (by walk_at "hp"), ?_⟩
  | refine And.intro (by walk_at "side") ?_)
local macro_rules | `(tactic| walk_at "rr") => `(tactic| (repeat walk_at "r"))
local macro_rules | `(tactic| walk_at "k") => `(tactic| first
  | refine ite2 (fun _ => ?_) (fun g => absurd rfl g)
  | refine ite2 (fun g => absurd g (by decide)) (fun _ => ?_)
  | refine ite2 (fun _ => ?_) (fun g => absurd (decide_eq_true (by omega)) g)
  | refine ite2 (fun g => absurd (of_decide_eq_true g) (by omega)) (fun _ => ?_)
  | refine ite2 (fun g => (nd_t g (by omega)).elim) (fun _ => ?_)
  | refine ite2 (fun _ => ?_) (fun g => absurd (nd_f g) (by omega)))
local macro_rules | `(tactic| walk_at "rk") => `(tactic| (repeat (first | walk_at "r" | walk_at "k")))
theorem Turns.at {ts : List (List (Str × Int))} (tok : Turns ts) {s : Int} (s0 : 0 ≤ s) (s1 : s < ts.length) : ts.getD s.toNat [] ∈ ts := by
  rw [List.getD_eq_getElem?_getD, List.getElem?_eq_getElem (by omega : s.toNat < ts.length)]
  exact List.getElem_mem _
theorem hint_row {mo : Str} {row : List (Str × Int)} {hv : V} (h : hintB mo row hv = true) : hv = .non ∨ ∃ z, hv = .str z ∧ z ∈ row.map (·.1) := by
  cases hv with
  | non => exact .inl rfl
  | str z => exact .inr ⟨z, rfl, of_decide_eq_true (Bool.and_eq_true_iff.mp (show (!decide (mo = "none") && decide (z ∈ row.map (·.1))) = true from h)).2⟩
  | _ => exact absurd h (by simp [hintB])
theorem reqs_in {mo : Str} {row : List (Str × Int)} {hv : V} (h : hintB mo row hv = true) : ∀ z ∈ reqsOf mo row hv, z ∈ row.map (·.1) := by
  have all : ∀ z ∈ srtN row, z ∈ row.map (·.1) := fun z m => (srtN_all row).mem_iff.mp m
  rcases hint_row h with rfl | ⟨y, rfl, my⟩
  · exact all
  · show ∀ z ∈ (if mo = "true" then [y] else srtN row), _
    split
    · intro z m; rw [List.mem_singleton.mp m]; exact my
    · exact all
theorem reqs_len {mo : Str} {row : List (Str × Int)} {hv : V} (h1 : 1 ≤ row.length) : 1 ≤ (reqsOf mo row hv).length ∧ (reqsOf mo row hv).length ≤ row.length := by
  have e : (srtN row).length = row.length := by rw [(srtN_all row).length_eq, List.length_map]
  cases hv with
  | str z =>
    show 1 ≤ (if mo = "true" then [z] else srtN row).length ∧ (if mo = "true" then [z] else srtN row).length ≤ _
    split
    · exact ⟨Nat.le_refl _, h1⟩
    · omega
  | _ => exact ⟨by show 1 ≤ (srtN row).length; omega, by show (srtN row).length ≤ _; omega⟩
theorem hints_in {mo : Str} {row : List (Str × Int)} : ∀ h ∈ hintsOf mo row, h = .non ∨ ∃ z, h = .str z ∧ z ∈ row.map (·.1) := by
  intro h m
  unfold hintsOf at m
  split at m
  · exact .inl (List.mem_singleton.mp m)
  · obtain ⟨z, mz, rfl⟩ := List.mem_map.mp m
    exact .inr ⟨z, rfl, (srtN_all row).mem_iff.mp mz⟩
theorem hints_pos {mo : Str} {row : List (Str × Int)} (h1 : 1 ≤ row.length) : hintsOf mo row ≠ [] := by
  unfold hintsOf
  split
  · simp
  · intro e
    have e2 := congrArg List.length e
    rw [List.length_map, (srtN_all row).length_eq, List.length_map] at e2
    simp at e2
    rw [e2] at h1
    exact absurd h1 (by decide)
theorem asks_ok {mo : Str} {ts : List (List (Str × Int))} (tok : Turns ts) {s : Int} {hv : V} (s0 : 0 ≤ s) (s1 : s < ts.length) (h : hintB mo (ts.getD s.toNat []) hv = true) : (asksOf mo ts s hv).length ≤ 225 ∧ 1 ≤ (asksOf mo ts s hv).length ∧ ∀ p ∈ asksOf mo ts s hv, AskOk p := by
  have hm := tok.at s0 s1
  unfold asksOf
  generalize ts.getD s.toNat [] = row at *
  obtain ⟨r1, r15, rnd, rok⟩ := tok.row row hm
  have rin := reqs_in h
  obtain ⟨l1, l2⟩ := reqs_len (mo := mo) (hv := hv) r1
  generalize reqsOf mo row hv = zs at *
  have next : ∀ z ∈ zs, ts.getD (toOf row z).toNat [] ∈ ts ∧ Name 8 z := fun z mz => by
    obtain ⟨_, pr, mpr, ep, ev⟩ := toOf_val rnd (rin z mz)
    obtain ⟨n8, v0, v1⟩ := rok pr mpr
    rw [ev] at v0 v1
    exact ⟨tok.at v0 v1, ep ▸ n8⟩
  refine ⟨?_, ?_, ?_⟩
  · have := asksFor_len (mo := mo) (ts := ts) (row := row) (zs := zs) fun z mz => by
      obtain ⟨q1, q2, _⟩ := tok.row _ (next z mz).1
      exact Nat.le_trans (hintsOf_len q1) q2
    omega
  · match zs, l1, next with
    | z :: zs, _, next =>
      have q1 := (tok.row _ (next z List.mem_cons_self).1).1
      have e : asksFor mo ts row (z :: zs) = (hintsOf mo (ts.getD (toOf row z).toNat [])).map (fun h => (z, h)) ++ asksFor mo ts row zs := rfl
      rw [e, List.length_append, List.length_map]
      have := List.length_pos_iff.mpr (hints_pos (mo := mo) q1)
      omega
  · intro p mp
    obtain ⟨z, mz, m2⟩ := List.mem_flatMap.mp mp
    obtain ⟨y, my, rfl⟩ := List.mem_map.mp m2
    obtain ⟨hm2, n8⟩ := next z mz
    refine ⟨n8.low, ?_⟩
    rcases hints_in y my with rfl | ⟨x, rfl, mx⟩
    · exact .inl rfl
    · obtain ⟨pr, mpr, rfl⟩ := List.mem_map.mp mx
      exact .inr ⟨pr.1, rfl, ((tok.row _ hm2).2.2.2 pr mpr).1.low⟩
end Toy

namespace Toy
open PySem PySem.Spec PyProof.Rows L2
local macro_rules | `(tactic| walk_at "hp") => `(tactic| first
  | assumption
  | exact upd_same
  | (refine Eq.trans (upd_ne (by first | assumption | (apply Ne.symm; assumption))) ?_; walk_at "hp"))
local macro_rules | `(tactic| walk_at "side") => `(tactic| first
  | exact .inl ⟨by omega, by omega⟩
  | exact .inr ⟨by omega, by omega⟩
  | exact ⟨by omega, by omega⟩
  | (show _ ≤ _; omega)
  | (show (_ : Int) < _; omega)
  | decide
  | assumption)
local macro_rules | `(tactic| walk_at "r") => `(tactic| first
  | refine ⟨_, rfl, ?_⟩
  | refine ⟨_, _, rfl, rfl, ?_⟩
  | refine ⟨_, _, _, _, rfl, rfl, SqL.of (by walk_at "hp"), rfl, ?_⟩
  | refine ⟨_, _, _, _, rfl, rfl, SqT.of (by walk_at "hp"), rfl, ?_⟩
  | refine ⟨_, _, _, _, rfl, rfl, (by walk_at "hp"), rfl, ?_⟩
  | refine And.intro rfl ?_
  | refine ⟨_, _, rfl, SqT.of (by walk_at "hp"), ?_⟩
  | refine ⟨_, _, rfl, SqL.of (by walk_at "hp"), ?_⟩
  | refine .inl ⟨_, rfl, ?_⟩
  | refine ⟨_, _, rfl, .inl (SqL.of (by walk_at "hp")), ?_⟩
  | refine ⟨_, _, rfl, .inr (SqT.of (by walk_at "hp")), ?_⟩
  | refine ⟨_, _, rfl, .inl ⟨SqL.of (by walk_at "hp"), ?_⟩⟩
  | refine And.intro (.inl ⟨rfl, _, SqL.of (by walk_at "hp")⟩) ?_
  | refine ⟨_, _, _, rfl, rfl, (by walk_at "hp"), ?_⟩
  | refine ⟨_, _, rfl, (by walk_at "hp"), ?_⟩
  | refine And.intro (by walk_at "side") ?_)
local macro_rules | `(tactic| walk_at "rr") => `(tactic| (repeat walk_at "r"))
local macro_rules | `(tactic| walk_at "k") => `(tactic| first
  | refine ite2 (fun _ => ?_) (fun g => absurd rfl g)
  | refine ite2 (fun g => absurd g (by decide)) (fun _ => ?_)
  | refine ite2 (fun _ => ?_) (fun g => absurd (decide_eq_true (by omega)) g)
  | refine ite2 (fun g => absurd (of_decide_eq_true g) (by omega)) (fun _ => ?_)
  | refine ite2 (fun g => (nd_t g (by omega)).elim) (fun _ => ?_)
  | refine ite2 (fun _ => ?_) (fun g => absurd (nd_f g) (by omega)))
local macro_rules | `(tactic| walk_at "rk") => `(tactic| (repeat (first | walk_at "r" | walk_at "k")))
/-- an error of the class C that keeps v as f leaves -/
def Lets (E : XK) (C : Addr) (f : Str) (v : V) (H : Hp) : Prop := ∀ d H', Same H H' → H d = none → H' d = some (.xd [(f, v)]) → E (.ref C) (some d) H'
theorem Lets.same {E : XK} {C : Addr} {f : Str} {v : V} {H H' : Hp} (h : Lets E C f v H) (k : Same H H') : Lets E C f v H' := fun d H2 k2 n e => h d H2 (k.trans k2) (by
  cases q : H d with
  | none => rfl
  | some o => rw [k _ _ q] at n; cases n) e
def spPricesG (K : PySem.W.Frag) (C cN : Addr) : Sp := fun vs H Q E => ∃ (p : Addr) (S : Sys) (v : V) (n : String), vs = [.ref p, v] ∧ SysOk S ∧ SysAt C H p S ∧ TyG K H v n ∧
  (∀ z row, v = .str z → (z, row) ∈ S.rs → ∀ pv, OptT H pv row → Q pv H) ∧ ((∀ z, v = .str z → ¬ z ∈ S.rs.map (·.1)) → Lets E cN "name" v H)
def AfterIs (S : Sys) (off : List Int) (row : List (Option Int)) (t : Addr) (H : Hp) : Prop := ∃ tv, H t = some (.tup [tv, .int (minL (rawL S.n.toNat S.ws (srv S.n.toNat off row)))]) ∧ IntT H tv (newOff (rawL S.n.toNat S.ws (srv S.n.toNat off row)))
def spRisenG (K : PySem.W.Frag) (C cN : Addr) : Sp := fun vs H Q E => ∃ (p : Addr) (S : Sys) (v : V) (off : List Int) (nv : V) (n : String), vs = [.ref p, v, nv] ∧ SysOk S ∧ SysAt C H p S ∧ IntT H v off ∧ off.length = S.n.toNat ∧ TyG K H nv n ∧
  (∀ z row, nv = .str z → (z, row) ∈ S.rs → ∀ t H', Same H H' → AfterIs S off row t H' → Q (.ref t) H') ∧ ((∀ z, nv = .str z → ¬ z ∈ S.rs.map (·.1)) → Lets E cN "name" nv H)
def SvT (ws : List (List Int)) (H : Hp) (v : V) (q : Int × Nat) : Prop := ∃ (t ra : Addr) (r : List Int), v = .ref t ∧ H t = some (.tup [.int q.1, .ref ra]) ∧ H ra = some (.tup (r.map V.int)) ∧ ws[q.2]? = some r
theorem SvT.firm {ws : List (List Int)} {H H' : Hp} {v : V} {q : Int × Nat} (k : ∀ e xs, H e = some (.tup xs) → H' e = some (.tup xs)) (h : SvT ws H v q) : SvT ws H' v q := by
  obtain ⟨t, ra, r, e, h1, h2, h3⟩ := h
  exact ⟨t, ra, r, e, k _ _ h1, k _ _ h2, h3⟩
theorem srv_none {i : Nat} {off : List Int} {row : List (Option Int)} (h : row.getD i none = none) : srv (i + 1) off row = srv i off row := by
  unfold srv
  rw [List.range_succ, List.filterMap_append, List.filterMap_cons, svF_none h]
  simp
theorem srv_some {i : Nat} {off : List Int} {row : List (Option Int)} {c : Int} (h : row.getD i none = some c) : srv (i + 1) off row = srv i off row ++ [(off.getD i 0 + c, i)] := by
  unfold srv
  rw [List.range_succ, List.filterMap_append, List.filterMap_cons, svF_some h]
  rfl
theorem srv_len (i : Nat) (off : List Int) (row : List (Option Int)) : (srv i off row).length ≤ i := by
  unfold srv
  exact Nat.le_trans (List.length_filterMap_le _ _) (Nat.le_of_eq List.length_range)
section
variable {P : Program} {w : World} {K : PySem.W.Frag} {mg : Str → Option Value} {base : Heap}
theorem ok_NoRequestZ_initZ (T : Top K mg) : ∃ (fI : Addr) (fd : FuncData), PySem.W.findIn K (.ref T.c_NoRequest) "__init__" = some (some (.ref fI)) ∧ PySem.W.typeIn K (.ref fI) = some (.type "function") ∧ Binds K fd ["self", "name"] [] ∧ FnOk P w K mg base CX0 1 fI fd ["self", "name"] (spInitF K "name") := by
  obtain ⟨fI, fd, q, i, t, F, b⟩ := T.x_NoRequest.h
  refine ⟨fI, fd, i, t, b, F.ok sc_NoRequestZ_initZ (fun vs H Q E h => ?_) (fun cdv A outer s H vs Q E hr h => ?_)⟩
  · obtain ⟨a, C, v, rfl, _⟩ := h
    rfl
  · obtain ⟨a, C, v, rfl, hT, hno, ha, k⟩ := h
    refine ⟨_, pss_one (ps_ost (pv 0) (pv 1)), ?_⟩
    exact ⟨_, rfl, _, rfl, a, C, rfl, hT, hno, .inl ⟨ha, k⟩⟩
theorem ok_System_prices (T : Top K mg) : OkM P w K mg base (L2.CX P w) 3 T.c_System "prices" ["self", "name"] (spPricesG K T.c_System T.c_NoRequest) := by
  refine okMX_of T.m_System_prices sc_System_prices (fun vs H Q E h => ?_) (fun f cdv A outer s H vs Q E hr h => ?_)
  · obtain ⟨p, S, v, n, rfl, _⟩ := h
    rfl
  · obtain ⟨p, S, v, n, rfl, ok, SA, hn, k1, k2⟩ := h
    obtain ⟨f_is_known, fd_is_known, m_is_known, k_is_known, b_is_known, G_is_known⟩ := ok_is_known (P := P) (w := w) (base := base) T
    have hr_is_known : Room 1 _ := hr.mono (by decide)
    obtain ⟨f_NoRequest, fd_NoRequest, i_NoRequest, t_NoRequest, b_NoRequest, G_NoRequest⟩ := ok_NoRequestZ_initZ (P := P) (w := w) (base := base) T
    have hr_NoRequest : Room 2 _ := hr.mono (by decide)
    have hu := hu_of hr
    obtain ⟨dx, mv, na, wv, q, kvs, hp, h2, h3, h4, hq, hR⟩ := SA.ex
    refine ⟨_, (pss_cons (ps_if (pt_not (pt_val (pe_call G_is_known hr_is_known rfl m_is_known k_is_known b_is_known .nil pass0 (pa_cons (pv 1) (pa_cons (pe_fld (pv 0) rfl) pa_nil)))))
      (pss_one (ps_raise rfl (takes_of rfl rfl rfl rfl) (pmk_oex T.x_NoRequest.T i_NoRequest t_NoRequest G_NoRequest hr_NoRequest b_NoRequest .nil pass0 (by rfl) T.x_NoRequest.mg (pa_cons (pv 1) pa_nil))))
      pss_nil)
      (pss_one (ps_ret (pe_dget hu (pe_fld (pv 0) rfl) (pv 1) (fun _ _ => rfl))))), ?_⟩
    refine ⟨_, rfl, _, rfl, p, T.c_System, dx, _, _, rfl, hp, T.cl_System, T.na_System__requests, sfs_requests, ?_⟩
    refine ⟨v, n, q, rfl, hn, .inl ⟨kvs, hq, ?_⟩⟩
    refine ⟨_, rfl, ?_⟩
    by_cases hz : ∃ z, v = .str z ∧ z ∈ S.rs.map (·.1)
    · obtain ⟨z, rfl, hm⟩ := hz
      obtain ⟨⟨z', row⟩, hm2, rfl⟩ := List.mem_map.mp hm
      clear hm
      obtain ⟨pv, hv, hO⟩ := dct_some hR ok.nd hm2
      have hk : isKn kvs (.str z') = true := by show (valV kvs (.inr z' : Key)).isSome = true; rw [hv]; rfl
      rw [hk]
      refine ite2 (fun g => nomatch g) (fun _ => ?_)
      refine ⟨_, rfl, p, T.c_System, dx, _, _, rfl, hp, T.cl_System, T.na_System__requests, sfs_requests, ?_⟩
      exact ⟨_, rfl, q, pv, rfl, (by rw [← hv]; exact DGet.k (k := Sum.inr z') hq), k1 z' row rfl hm2 pv hO⟩
    · have hk : isKn kvs v = false := by
        cases v with
        | str z =>
          show (valV kvs (.inr z : Key)).isSome = false
          rw [dct_none hR (fun hm => hz ⟨z, rfl, hm⟩)]; rfl
        | _ => rfl
      rw [hk]
      refine ite2 (fun _ => ?_) (fun g => absurd rfl g)
      exact ⟨_, rfl, (by show 1 ≤ 1000; decide), init_raise T.x_NoRequest.T T.x_NoRequest.no (k2 fun z e hm => hz ⟨z, e, hm⟩)⟩
theorem ok_risen (T : Top K mg) : OkX P w K mg base 4 "risen" ["system", "offsets", "name"] (spRisenG K T.c_System T.c_NoRequest) := by
  refine okX_of T.d_risen sc_risen (fun vs H Q E h => ?_) (fun f cdv A outer s H vs Q E hr h => ?_)
  · obtain ⟨p, S, v, off, nv, n, rfl, _⟩ := h
    rfl
  · obtain ⟨p, S, v, off, nv, nn, rfl, ok, SA, ⟨va, rfl, hva⟩, hol, hnv, k, kno⟩ := h
    obtain ⟨f_prices, fd_prices, M_prices, b_prices, G_prices⟩ := ok_System_prices (P := P) (w := w) (base := base) T
    have hr_prices : Room 3 _ := hr.mono (by decide)
    obtain ⟨dx, mv, na, wv, q, kvs, hp, h2, h3, ⟨wa, wvs, rfl, hwa, hwp⟩, hq, hR⟩ := SA.ex
    have hwl : (wvs.length : Int) = S.n := by rw [prd_len hwp]; exact ok.wy.len
    have n6 := ok.n6
    have n1 := ok.n1
    refine ⟨_, (pss_cons (ps_set (i := 3) sc_risen.nd rfl (Or.inr rfl) (pe_lc (own := [("offset", 6), ("price", 7), ("ways", 8)]) rfl sc_risen.nd (pi_zip3 (by rfl) T.b_zip (pa_cons (pv 1) (pa_cons (pe_meth (pv 0) T.cl_System M_prices G_prices hr_prices b_prices .nil (passes_call (takes_of rfl rfl rfl rfl) (fun _ _ _ _ h => h)) (pa_cons (pv 2) pa_nil)) (pa_cons (pe_fld (pv 0) rfl) pa_nil)))) (blkOk_by (own := [("offset", 6), ("price", 7), ("ways", 8)]) (N := ["system", "offsets", "name", "served", "raw", "rise", "offset", "price", "ways", "cost", "post"]) (sc := defScope s_risen) (by decide +kernel)) (fun _ _ _ _ _ => ((pg_tup rfl (pgs_cons (pg_name (i := 6) sc_risen.nd rfl (Or.inl rfl)) (pgs_cons (pg_name (i := 7) sc_risen.nd rfl (Or.inl rfl)) (pgs_cons (pg_name (i := 8) sc_risen.nd rfl (Or.inl rfl)) pgs_nil)))) : PG _ _ (gTup K 3 (gCons (gName 6) (gCons (gName 7) (gCons (gName 8) gNil)))))) (fun _ _ _ _ _ => (pts_one (pt_cmpR op_notN (pv 7) pe_non (nomark _)))) (fun _ _ _ _ _ => (pe_tup (pa_cons (pe_op op_add (pv 6) (pv 7)) (pa_cons (pv 8) pa_nil))))))
      (pss_cons (ps_setLc (i := 4) (own := [("post", 10)]) (g := gName 10) rfl sc_risen.nd rfl rfl (sw_true rfl rfl rfl (by decide +kernel)) (pi_range1 (by rfl) T.b_range (pa_cons (pe_fld (pv 0) rfl) pa_nil)) (blkOk_by (own := [("post", 10)]) (N := ["system", "offsets", "name", "served", "raw", "rise", "offset", "price", "ways", "cost", "post"]) (sc := defScope s_risen) (by decide +kernel)) (fun _ _ _ _ _ => (pg_name (i := 10) sc_risen.nd rfl (Or.inr rfl))) (fun _ _ _ _ _ => pts_nil) (fun _ _ _ _ _ => (pe_callB (id := "min") ((cr_min rfl) : CallR _ _ (rMin K)) (by rfl) T.b_min (by decide +kernel) (pa_cons (pe_lc (own := [("cost", 9), ("ways", 8)]) rfl sc_risen.nd (pi_list (pv 3) : PI _ _ _ (iList K _)) (blkOk_fr (own := [("cost", 9), ("ways", 8)]) (N := ["system", "offsets", "name", "served", "raw", "rise", "offset", "price", "ways", "cost", "post"]) ["post"] (by decide +kernel) ⟨(by first | exact Or.inl rfl | exact Or.inr rfl), True.intro⟩) (fun _ _ _ _ _ => ((pg_tup rfl (pgs_cons (pg_name (i := 9) sc_risen.nd rfl (Or.inl rfl)) (pgs_cons (pg_name (i := 8) sc_risen.nd rfl (Or.inl rfl)) pgs_nil))) : PG _ _ (gTup K 2 (gCons (gName 9) (gCons (gName 8) gNil))))) (fun _ _ _ _ _ => pts_nil) (fun _ _ _ _ _ => (pe_op op_add (pv 9) (pe_ix (ix_tup : IxR _ (rIxT K)) (pv 8) (pv 10) (fun _ _ => rfl))))) pa_nil))))
      (pss_cons (ps_set (i := 5) sc_risen.nd rfl (Or.inr rfl) (pe_callB (id := "min") (cr_min rfl) (by rfl) T.b_min (by decide +kernel) (pa_cons (pv 4) pa_nil)))
      (pss_one (ps_ret (pe_tup (pa_cons (pe_callTy (T := "tuple") call_tuple_of (by rfl) T.b_tuple (by decide +kernel) (pa_cons (pe_lc (own := [("cost", 9)]) (g := gName 9) rfl sc_risen.nd (pi_list (pv 4)) (blkOk_by (own := [("cost", 9)]) (N := ["system", "offsets", "name", "served", "raw", "rise", "offset", "price", "ways", "cost", "post"]) (sc := defScope s_risen) (by decide +kernel)) (fun _ _ _ _ _ => (pg_name (i := 9) sc_risen.nd rfl (Or.inl rfl))) (fun _ _ _ _ _ => pts_nil) (fun _ _ _ _ _ => (pe_op op_sub (pv 9) (pv 5)))) pa_nil)) (pa_cons (pv 5) pa_nil)))))))), ?_⟩
    refine ⟨_, rfl, _, rfl, p, dx, _, rfl, hp, sfs_no (by decide +kernel) (by decide +kernel) (by decide +kernel) (by decide +kernel) (by decide +kernel), _, rfl, ?_⟩
    refine ⟨p, S, nv, nn, rfl, ok, SA, hnv, fun z row ez hm pv hpv => ?_, kno⟩
    obtain ⟨pa, rfl, hpa⟩ := hpv
    have k := k z row ez hm
    have hrow := (ok.pr _ hm).1
    have hrl : (row.length : Int) = S.n := hrow.len
    unfold AfterIs at k
    refine ⟨_, rfl, p, T.c_System, dx, _, _, rfl, hp, T.cl_System, T.na_System_ways, sfs_ways, va, pa, wa, _, _, _, rfl, SqT.of hva, SqT.of hpa, SqT.of hwa, fun D nD => ?_⟩
    refine lc_it (walk_zip3 (K := K) (a := va) (b := pa) (e := wa) (xs := off.map V.int) (ys := row.map vO) (zs := wvs) (by rw [List.length_map, List.length_map]; omega) (by rw [List.length_map]; omega)) (fun i H2 => ∃ us : List V, H2 D = some (.lst us) ∧ Paired (SvT S.ws H2) us (srv i off row) ∧ Same H H2) ⟨[], upd_same, .nil, same_new nD⟩
      (fun i H2 _ ⟨_, _, _, s2⟩ => ⟨SqT.of (s2 _ _ hva), SqT.of (s2 _ _ hpa), SqT.of (s2 _ _ hwa)⟩) ?_ ?_
    · rintro i x H2 H3 hi ⟨us, e1, e2, s2⟩ ⟨tp, x1, y1, u1, rfl, np, rfl, g1, g2, g3⟩
      obtain ⟨o, ho, rfl⟩ := map_at g1
      have hil := (List.getElem?_eq_some_iff.mp ho).1
      obtain ⟨wrow, hwrow, ra, rfl, hra⟩ := prd_at1 hwp g3
      have r1 : (row.map vO)[i]? = some (vO (row.getD i none)) := by rw [List.getElem?_map, getDat none (by omega)]; rfl
      obtain rfl : vO (row.getD i none) = y1 := Option.some.inj (r1.symm.trans g2)
      have s3 : Same H2 (upd H2 tp (.tup [.int o, vO (row.getD i none), .ref ra])) := same_new np
      refine ⟨tp, _, rfl, SqT.of upd_same, rfl, _, _, rfl, _, _, rfl, _, _, rfl, rfl, rfl, ?_⟩
      refine ⟨_, rfl, rfl, _, rfl, ?_⟩
      cases hc : row.getD i none with
      | none =>
        refine ite2 (fun g => absurd g (by decide)) (fun _ => ?_)
        rw [hc] at s3
        exact ⟨us, s3 _ _ e1, by rw [srv_none hc]; exact prd_imp e2 fun x y r => SvT.firm (same_tups s3) r, s2.trans s3⟩
      | some c =>
        rw [hc] at s3
        refine ite2 (fun _ => ?_) (fun g => absurd (by rfl) g)
        refine ⟨_, rfl, _, rfl, _, _, rfl, rfl, _, rfl, (by show 2 ≤ sizeLine; decide), fun t nt => ?_⟩
        have s4 := s3.trans (same_new (o := .tup [.int (o + c), .ref ra]) nt)
        have hD4 := s4 _ _ e1
        refine ⟨us, hD4, ?_, us ++ [.ref t], upd_same, ?_, same_upd (s2.trans s4) nD⟩
        · rw [prd_len e2]; exact small1000 (Nat.le_trans (srv_len _ _ _) (by omega))
        have hF : ∀ e xs, (upd (upd H2 tp (.tup [.int o, vO (some c), .ref ra])) t (.tup [.int (o + c), .ref ra])) e = some (.tup xs) → (upd (upd (upd H2 tp (.tup [.int o, vO (some c), .ref ra])) t (.tup [.int (o + c), .ref ra])) D (.lst (us ++ [.ref t]))) e = some (.tup xs) := fun e xs q => (upd_ne (ne_of q hD4 (by intro z; cases z))).trans q
        rw [srv_some hc]
        refine Paired.snoc (prd_imp e2 fun x y r => SvT.firm hF (SvT.firm (same_tups s4) r)) ⟨t, ra, wrow, rfl, ?_, hF _ _ (s4 _ _ (s2 _ _ hra)), hwrow⟩
        rw [getD_some ho]
        exact hF _ _ upd_same
    · rintro H2 ⟨us, e1, e2, s2⟩
      rw [List.length_map, hol] at e2
      have hsl := srv_len S.n.toNat off row
      have hsne := srv_ne (off := off) (row := row) (n := S.n.toNat) (by omega) hrow.some
      generalize srv S.n.toNat off row = sv at e2 hsl hsne k ⊢
      have hul := prd_len e2
      refine ⟨_, rfl, p, T.c_System, dx, _, _, rfl, s2 _ _ hp, T.cl_System, T.na_System_posts, sfs_posts, _, rfl, by omega, by omega, fun R nR => ?_⟩
      refine lc_range (lo := 0) (n := S.n.toNat) (fun i H3 => H3 R = some (.lst (((List.range i).map (rawAt S.ws sv)).map V.int)) ∧ Same H2 H3) ⟨upd_same, same_new nR⟩ ?_ ?_
      · rintro i H3 hi ⟨f1, f2⟩
        rw [Int.zero_add]
        refine ⟨rfl, ?_⟩
        refine yesT ?_
        refine ⟨_, rfl, D, rfl, ⟨_, SqL.of (f2 _ _ e1)⟩, fun Ec nE => ?_⟩
        refine lc_list (K := K) (a := D) (xs := us) (fun j H4 => H4 Ec = some (.lst (((sv.take j).map fun q => q.1 + mat S.ws q.2 i).map V.int)) ∧ Same H3 H4) ⟨upd_same, same_new nE⟩ (fun j H4 _ h4 => SqL.of (h4.2 _ _ (f2 _ _ e1))) ?_ ?_
        · rintro j x H4 hj ⟨q1, q2⟩
          obtain ⟨qq, hqq, t, ra, r, rfl, ht, hra, hwr⟩ := prd_at1 e2 hj
          have hrr := ok.wy.row r (List.mem_of_getElem? hwr)
          have s24 := f2.trans q2
          have hri : (r.map V.int)[i]? = some (.int (r.getD i 0)) := by rw [List.getElem?_map, getDat 0 (by omega)]; rfl
          refine ⟨t, _, rfl, SqT.of (s24 _ _ ht), rfl, _, _, rfl, _, _, rfl, rfl, rfl, ?_⟩
          refine yesT ?_
          refine ⟨_, rfl, _, rfl, _, rfl, ra, _, (i : Nat), .int (r.getD i 0), rfl, rfl, SqT.of (s24 _ _ hra), atI_nat hri, _, _, rfl, rfl, ?_⟩
          refine ⟨_, q1, ?_, ?_, same_upd q2 nE⟩
          · rw [List.length_map, List.length_map, List.length_take]; exact small1000 (Nat.le_trans (Nat.min_le_right _ _) (by omega))
          · rw [upd_same, List.take_add_one, hqq, List.map_append, List.map_append, ← mat_at hwr i]; rfl
        · rintro H4 ⟨q1, q2⟩
          rw [hul, List.take_length] at q1
          refine ⟨Ec, _, rfl, SqL.of q1, (by rw [List.length_map]; exact List.length_pos_iff.mpr hsne), fun m hm hle => ?_⟩
          have em : rawAt S.ws sv i = m := minL_eq hm hle
          refine ⟨_, q2 _ _ f1, ?_, ?_, same_upd (f2.trans q2) nR⟩
          · rw [List.length_map, List.length_map, List.length_range]; exact small1000 (by omega)
          · rw [upd_same, List.range_succ, List.map_append, List.map_append, ← em]; rfl
      · rintro H3 ⟨f1, f2⟩
        have f1' : H3 R = some (.lst ((rawL S.n.toNat S.ws sv).map V.int)) := f1
        have hrawl : (rawL S.n.toNat S.ws sv).length = S.n.toNat := rawL_len
        generalize rawL S.n.toNat S.ws sv = raw at f1' hrawl k ⊢
        refine ⟨_, rfl, R, _, rfl, SqL.of f1', by omega, fun m hm hle => ?_⟩
        have em : minL raw = m := minL_eq hm hle
        subst em
        refine ⟨_, rfl, R, rfl, ⟨_, SqL.of f1'⟩, fun D3 nD3 => ?_⟩
        refine lc_list (K := K) (a := R) (xs := raw.map V.int) (fun j H4 => H4 D3 = some (.lst (((raw.take j).map fun c => c - minL raw).map V.int)) ∧ Same H3 H4) ⟨upd_same, same_new nD3⟩ (fun j H4 _ h4 => SqL.of (h4.2 _ _ f1')) ?_ ?_
        · rintro j x H4 hj ⟨q1, q2⟩
          obtain ⟨y, hy, rfl⟩ := map_at hj
          refine ⟨rfl, ?_⟩
          refine yesT ?_
          refine ⟨_, rfl, _, rfl, _, _, rfl, rfl, ?_⟩
          refine ⟨_, q1, ?_, ?_, same_upd q2 nD3⟩
          · rw [List.length_map, List.length_map, List.length_take]; exact small1000 (Nat.le_trans (Nat.min_le_right _ _) (by omega))
          · rw [upd_same, List.take_add_one, hy, List.map_append, List.map_append]; rfl
        · rintro H4 ⟨q1, q2⟩
          rw [List.length_map, List.take_length] at q1
          refine ⟨D3, _, rfl, .inl ⟨SqL.of q1, fun tt ntt => ?_⟩⟩
          refine ⟨_, rfl, (by show 2 ≤ sizeLine; decide), fun t nt => ?_⟩
          refine k t _ ?_ ⟨.ref tt, upd_same, ⟨tt, rfl, (upd_ne (ne_of_none upd_same nt)).trans upd_same⟩⟩
          exact (s2.trans (f2.trans q2)).trans ((same_new ntt).trans (same_new nt))
end
end Toy

namespace Toy
open PySem PySem.Spec PyProof.Rows L2
local macro_rules | `(tactic| walk_at "hp") => `(tactic| first
  | assumption
  | exact upd_same
  | (refine Eq.trans (upd_ne (by first | assumption | (apply Ne.symm; assumption))) ?_; walk_at "hp"))
local macro_rules | `(tactic| walk_at "side") => `(tactic| first
  | exact .inl ⟨by omega, by omega⟩
  | exact .inr ⟨by omega, by omega⟩
  | exact ⟨by omega, by omega⟩
  | (show _ ≤ _; omega)
  | (show (_ : Int) < _; omega)
  | decide
  | assumption)
local macro_rules | `(tactic| walk_at "r") => `(tactic| first
  | refine ⟨_, rfl, ?_⟩
  | refine ⟨_, _, rfl, rfl, ?_⟩
  | refine ⟨_, _, _, _, rfl, rfl, SqL.of (by walk_at "hp"), rfl, ?_⟩
  | refine ⟨_, _, _, _, rfl, rfl, SqT.of (by walk_at "hp"), rfl, ?_⟩
  | refine ⟨_, _, _, _, rfl, rfl, (by walk_at "hp"), rfl, ?_⟩
  | refine And.intro rfl ?_
  | refine ⟨_, _, rfl, SqT.of (by walk_at "hp"), ?_⟩
  | refine ⟨_, _, rfl, SqL.of (by walk_at "hp"), ?_⟩
  | refine .inl ⟨_, rfl, ?_⟩
  | refine ⟨_, _, rfl, .inl (SqL.of (by walk_at "hp")), ?_⟩
  | refine ⟨_, _, rfl, .inr (SqT.of (by walk_at "hp")), ?_⟩
  | refine ⟨_, _, rfl, .inl ⟨SqL.of (by walk_at "hp"), ?_⟩⟩
  | refine And.intro (.inl ⟨rfl, _, SqL.of (by walk_at "hp")⟩) ?_
  | refine ⟨_, _, _, rfl, rfl, (by walk_at "hp"), ?_⟩
  | refine ⟨_, _, rfl, (by walk_at "hp"), ?_⟩
  | refine And.intro (by walk_at "side") ?_)
local macro_rules | `(tactic| walk_at "rr") => `(tactic| (repeat walk_at "r"))
local macro_rules | `(tactic| walk_at "k") => `(tactic| first
  | refine ite2 (fun _ => ?_) (fun g => absurd rfl g)
  | refine ite2 (fun g => absurd g (by decide)) (fun _ => ?_)
  | refine ite2 (fun _ => ?_) (fun g => absurd (decide_eq_true (by omega)) g)
  | refine ite2 (fun g => absurd (of_decide_eq_true g) (by omega)) (fun _ => ?_)
  | refine ite2 (fun g => (nd_t g (by omega)).elim) (fun _ => ?_)
  | refine ite2 (fun _ => ?_) (fun g => absurd (nd_f g) (by omega)))
local macro_rules | `(tactic| walk_at "rk") => `(tactic| (repeat (first | walk_at "r" | walk_at "k")))
/-- the key of offsets and a request -/
def rkey (off : List Int) (z : Str) : NK := .tup [.tup (off.map NestedKey.num), .text z]
theorem keysAre_ints {H : Hp} : ∀ off : List Int, KeysAre H (off.map V.int) (off.map NestedKey.num)
  | [] => .nil
  | _ :: t => .cons (.int _) (keysAre_ints t)
theorem rkey_at {H : Hp} {b oa : Addr} {off : List Int} {z : Str} (hb : H b = some (.tup [.ref oa, .str z])) (ho : H oa = some (.tup (off.map V.int))) : KeyIs H (.ref b) (rkey off z) :=
  .tup hb (.cons (.tup ho (keysAre_ints off)) (.cons (.str z) .nil))
theorem depth_nums : ∀ off : List Int, NestedKey.depthAll (off.map NestedKey.num) = 0
  | [] => rfl
  | x :: t => by
    show max (NestedKey.depth (.num x)) (NestedKey.depthAll (t.map NestedKey.num)) = 0
    rw [depth_nums t]; rfl
theorem rkey_depth (off : List Int) (z : Str) : (rkey off z).depth ≤ 8 := by
  show max (NestedKey.depthAll (off.map NestedKey.num) + 1) (max 0 0) + 1 ≤ 8
  rw [depth_nums]; decide
theorem nums_inj : ∀ {xs ys : List Int}, xs.map NestedKey.num = ys.map NestedKey.num → xs = ys
  | [], [], _ => rfl
  | [], _ :: _, h => by cases h
  | _ :: _, [], h => by cases h
  | x :: t, y :: u, h => by
    have h : NestedKey.num x :: t.map NestedKey.num = NestedKey.num y :: u.map NestedKey.num := h
    injection h with h1 h2
    injection h1 with h1
    rw [h1, nums_inj h2]
theorem rkey_inj {off off' : List Int} {z z' : Str} (h : rkey off z = rkey off' z') : off = off' ∧ z = z' := by
  unfold rkey at h
  injection h with h
  injection h with h1 h2
  injection h1 with h1
  injection h2 with h2 _
  injection h2 with h2
  exact ⟨nums_inj h1, h2⟩
/-- what has been risen so far -/
structure RisOk (S : Sys) (H : Hp) (xs : List NEnt) : Prop where
  k : ∀ x ∈ xs, ∃ off z row t, x.1 = rkey off z ∧ (z, row) ∈ S.rs ∧ x.2.2 = .ref t ∧ AfterIs S off row t H
theorem AfterIs.firm {S : Sys} {off : List Int} {row : List (Option Int)} {t : Addr} {H G : Hp} (h : AfterIs S off row t H) (hk : ∀ a xs, H a = some (.tup xs) → G a = some (.tup xs)) : AfterIs S off row t G := by
  obtain ⟨tv, h1, h2⟩ := h
  exact ⟨tv, hk _ _ h1, IntT.firm _ _ _ _ hk h2⟩
theorem RisOk.firm {S : Sys} {H G : Hp} {xs : List NEnt} (r : RisOk S H xs) (hk : ∀ a ys, H a = some (.tup ys) → G a = some (.tup ys)) : RisOk S G xs := ⟨fun x m => by
  obtain ⟨off, z, row, t, e1, e2, e3, e4⟩ := r.k x m
  exact ⟨off, z, row, t, e1, e2, e3, e4.firm hk⟩⟩
/-- a Steps with what it has risen; H0: the heap before it was made -/
structure StN (P : Program) (w : World) (CS CT : Addr) (H0 H : Hp) (q r : Addr) (S : Sys) (ts : List (List (Str × Int))) (mo : Str) (xs : List NEnt) : Prop where
  ex : ∃ (dx p ta : Addr) (ds : List Addr), H q = some (.ins CT dx (stf p mo ta r)) ∧ SysAt CS H0 p S ∧ TurnsAt H ta ds ts ∧ ∀ d ∈ ds, d ≠ r
  same : Same H0 H
  r0 : H0 r = none
  nd : NdAt P w H r xs
  ris : RisOk S H xs
  few : xs.length ≤ 8000000
theorem StN.go {P : Program} {w : World} {CS CT : Addr} {H0 H G : Hp} {q r : Addr} {S : Sys} {ts : List (List (Str × Int))} {mo : Str} {xs : List NEnt} (s : StN P w CS CT H0 H q r S ts mo xs) (k : Same H G) : StN P w CS CT H0 G q r S ts mo xs := by
  obtain ⟨dx, p, ta, ds, h1, h2, h3, h4⟩ := s.ex
  exact ⟨⟨dx, p, ta, ds, k _ _ h1, h2, h3.same k, h4⟩, s.same.trans k, s.r0, s.nd.same k, s.ris.firm fun a ys e => k _ _ e, s.few⟩
theorem StAt.new {P : Program} {w : World} {CS CT : Addr} {H0 H : Hp} {q : Addr} {S : Sys} {ts : List (List (Str × Int))} {mo : Str} (A : StAt CS CT H q S ts mo) (tok : Turns ts) (s : Same H0 H) (sys : ∀ {p}, SysAt CS H p S → SysAt CS H0 p S) (new : ∀ {r dx p ta}, H q = some (.ins CT dx (stf p mo ta r)) → H0 r = none) : ∃ r, StN P w CS CT H0 H q r S ts mo [] := by
  obtain ⟨dx, p, ta, r, ds, h1, h2, h3, h4⟩ := A.ex
  refine ⟨r, ⟨dx, p, ta, ds, h1, sys h2, h3, fun d m z => ?_⟩, s, new h1, .inl ⟨rfl, h4⟩, ⟨by simp⟩, by simp⟩
  subst z
  obtain ⟨i, hi⟩ := List.getElem?_of_mem m
  obtain ⟨row, hrow, e⟩ := prd_at1 h3.each hi
  rw [h4] at e
  have := (tok.row row (List.mem_of_getElem? hrow)).1
  injection e with e
  injection e with e
  have e2 := congrArg List.length e
  rw [tkv_len] at e2
  simp at e2
  omega
theorem mem_row {S : Sys} (ok : SysOk S) {z : Str} {r1 r2 : List (Option Int)} (h1 : (z, r1) ∈ S.rs) (h2 : (z, r2) ∈ S.rs) : r1 = r2 := by
  have key : ∀ {l : List (Str × List (Option Int))}, (l.map (·.1)).Nodup → (z, r1) ∈ l → (z, r2) ∈ l → r1 = r2 := by
    intro l
    induction l with
    | nil => intro _ h; cases h
    | cons x l ih =>
      intro nd a b
      rw [List.map_cons] at nd
      have ⟨n1, n2⟩ := List.nodup_cons.mp nd
      rcases List.mem_cons.mp a with a | a
      · rcases List.mem_cons.mp b with b | b
        · rw [← a] at b
          injection b with _ b
          exact b.symm
        · exact absurd (List.mem_map.mpr ⟨_, b, by rw [← a]⟩) n1
      · rcases List.mem_cons.mp b with b | b
        · exact absurd (List.mem_map.mpr ⟨_, a, by rw [← b]⟩) n1
        · exact ih n2 a b
  exact key ok.nd h1 h2
/-- posts that let a request be asked -/
def postsOf (row : List (Option Int)) : List Int := ((List.range row.length).filter fun i => (row.getD i none).isSome).map fun i => ((i : Nat) : Int)
def spPostsFor (CS CT : Addr) : Sp := fun vs H Q E => ∃ (q dx p ta r : Addr) (S : Sys) (mo : Str) (z : Str) (row : List (Option Int)), vs = [.ref q, .str z] ∧ SysOk S ∧ H q = some (.ins CT dx (stf p mo ta r)) ∧ SysAt CS H p S ∧ (z, row) ∈ S.rs ∧ ∀ l G, Same H G → H l = none → G l = some (.lst ((postsOf row).map V.int)) → Q (.ref l) G
theorem smallBig {n : Nat} (h : n ≤ 8000000) : n < sizeLine := Nat.lt_of_le_of_lt h (by show 8000000 < 2 ^ 24; decide)
def spRisenBy (P : Program) (w : World) (K : PySem.W.Frag) (CS CT cN : Addr) : Sp := fun vs H Q E => ∃ (q r : Addr) (S : Sys) (ts : List (List (Str × Int))) (mo : Str) (xs : List NEnt) (H0 : Hp) (v : V) (off : List Int) (z : Str) (row : List (Option Int)), vs = [.ref q, v, .str z] ∧ SysOk S ∧ StN P w CS CT H0 H q r S ts mo xs ∧ IntT H v off ∧ off.length = S.n.toNat ∧ (z, row) ∈ S.rs ∧ xs.length < 8000000 ∧
  ∀ t G ys, Same H0 G → (∀ a us, H a = some (.tup us) → G a = some (.tup us)) → StN P w CS CT H0 G q r S ts mo ys → ys.length ≤ xs.length + 1 → AfterIs S off row t G → Q (.ref t) G
section
variable {P : Program} {w : World} {K : PySem.W.Frag} {mg : Str → Option Value} {base : Heap}
theorem ok_Steps_risen_by (T : Top K mg) : OkM P w K mg base (L2.CX P w) 5 T.c_Steps "risen_by" ["self", "offsets", "request"] (spRisenBy P w K T.c_System T.c_Steps T.c_NoRequest) := by
  refine okMX_of T.m_Steps_risen_by sc_Steps_risen_by (fun vs H Q E h => ?_) (fun f cdv A outer s H vs Q E hr h => ?_)
  · obtain ⟨q, r, S, ts, mo, xs, H0, v, off, z, row, rfl, _⟩ := h
    rfl
  · obtain ⟨q, r, S, ts, mo, xs, H0, v, off, z, row, rfl, ok, A, hv, ol, hm, few, k⟩ := h
    obtain ⟨f_risen, fd_risen, m_risen, k_risen, b_risen, G_risen⟩ := ok_risen (P := P) (w := w) (base := base) T
    have hr_risen : Room 4 _ := hr.mono (by decide)
    have hu64 := hr.units
    obtain ⟨dx, p, ta, ds, hq, SA, hT, hne⟩ := A.ex
    obtain ⟨oa, rfl, ho⟩ := hv
    refine ⟨_, (pss_cons (ps_set (i := 3) sc_Steps_risen_by.nd rfl (Or.inl rfl) (pe_tup (pa_cons (pv 1) (pa_cons (pv 2) pa_nil))))
      (pss_cons (ps_if (pt_cmp (pc_ndnotin hu64 (pv 3) (pe_fld (pv 0) rfl)))
      (pss_one (ps_ndput hu64 (pe_fld (pv 0) rfl) (pv 3) (pe_call G_risen hr_risen rfl m_risen k_risen b_risen .nil (passes_call (takes_of rfl rfl rfl rfl) (fun _ _ _ _ h => h)) (pa_cons (pe_fld (pv 0) rfl) (pa_cons (pv 1) (pa_cons (pv 2) pa_nil)))) rfl))
      pss_nil)
      (pss_one (ps_ret (pe_ndget hu64 (pe_fld (pv 0) rfl) (pv 3) (fun _ _ => rfl)))))), ?_⟩
    refine ⟨_, rfl, _, rfl, (by show 2 ≤ sizeLine; decide), fun b nb => ?_⟩
    have s1 : Same H (upd H b (.tup [.ref oa, .str z])) := same_new nb
    have e1 : (upd H b (.tup [.ref oa, .str z])) b = some (.tup [.ref oa, .str z]) := upd_same
    have A1 := A.go s1
    have hq1 := s1 _ _ hq
    have ho1 := s1 _ _ ho
    generalize upd H b (.tup [.ref oa, .str z]) = H1 at *
    have ky1 := rkey_at e1 ho1
    have dp := rkey_depth off z
    refine ⟨_, rfl, _, rfl, q, T.c_Steps, dx, _, _, rfl, hq1, T.cl_Steps, T.na_Steps__risen, stf_risen, xs, rkey off z, r, b, ⟨rfl, rfl, A1.nd, ky1, dp⟩, ?_⟩
    have SA1 := SA.same A1.same
    refine ⟨_, rfl, ?_⟩
    cases hl : lookN xs (rkey off z) with
    | some v =>
      refine ite2 (fun g => nomatch g) (fun _ => ?_)
      obtain ⟨t, ev, hA⟩ : ∃ t, v = .ref t ∧ AfterIs S off row t H1 := by
        unfold lookN at hl
        obtain ⟨x, hx, e⟩ := Option.map_eq_some_iff.mp hl
        have hm2 := List.mem_of_find?_eq_some hx
        have hk2 : x.1 = rkey off z := of_decide_eq_true (show decide (x.1 = rkey off z) = true from List.find?_some (p := fun x : NEnt => decide (x.1 = rkey off z)) hx)
        obtain ⟨off', z', row', t, q1, q2, q3, q4⟩ := A1.ris.k x hm2
        obtain ⟨r1, r2⟩ := rkey_inj (hk2.symm.trans q1)
        subst r1 r2
        obtain rfl := mem_row ok hm q2
        exact ⟨t, by rw [← e, q3], q4⟩
      subst ev
      exact ⟨_, rfl, q, T.c_Steps, dx, _, _, rfl, hq1, T.cl_Steps, T.na_Steps__risen, stf_risen, _, rfl, xs, rkey off z, r, b, .ref t, ⟨rfl, rfl, A1.nd, ky1, dp⟩, hl, k t _ xs A1.same (fun a us e => s1 _ _ e) A1 (Nat.le_succ _) hA⟩
    | none =>
      refine ite2 (fun _ => ?_) (fun g => absurd rfl g)
      refine ⟨_, rfl, q, T.c_Steps, dx, _, _, rfl, hq1, T.cl_Steps, T.na_Steps_system, stf_system, _, rfl, _, rfl, p, S, .ref oa, off, .str z, "str", rfl, ok, SA1, ⟨oa, rfl, ho1⟩, ol, .blt rfl, fun z' row' ez hm' t H2 s2 hA => ?_, fun hno => absurd (List.mem_map.mpr ⟨_, hm, rfl⟩) (hno z rfl)⟩
      injection ez with ez
      subst ez
      obtain rfl := mem_row ok hm hm'
      have A2 := A1.go s2
      have e2 := s2 _ _ e1
      have ky2 := ky1.same s2
      refine ⟨_, rfl, q, T.c_Steps, dx, _, _, rfl, s2 _ _ hq1, T.cl_Steps, T.na_Steps__risen, stf_risen, _, rfl, xs, rkey off z, r, b, ⟨rfl, rfl, A2.nd, ky2, dp⟩, hl, smallBig (by omega), ?_⟩
      have nd3 := A2.nd.put (v := .ref t) ky2 dp
      have isD : ∀ {a us}, H2 a = some (.tup us) → a ≠ r := fun {a us} e z => by
        subst z
        rcases A2.nd with ⟨_, h⟩ | ⟨h, _⟩ <;> rw [h] at e <;> cases e
      have isI : q ≠ r := fun z => by
        subst z
        have := s2 _ _ hq1
        rcases A2.nd with ⟨_, h⟩ | ⟨h, _⟩ <;> rw [h] at this <;> cases this
      have tup3 : ∀ a us, H2 a = some (.tup us) → (upd H2 r (NdO P w r (xs ++ [(rkey off z, b, .ref t)]))) a = some (.tup us) := fun a us e => (upd_ne (isD e)).trans e
      obtain ⟨dx2, p2, ta2, ds2, h1, h2, h3, h4⟩ := A2.ex
      have A3 : StN P w T.c_System T.c_Steps H0 (upd H2 r (NdO P w r (xs ++ [(rkey off z, b, .ref t)]))) q r S ts mo (xs ++ [(rkey off z, b, .ref t)]) := by
        refine ⟨⟨dx2, p2, ta2, ds2, (upd_ne isI).trans h1, h2, ⟨tup3 _ _ h3.tup, h3.nd, paired_snoc_at h3.each fun d m o e => (upd_ne (h4 d m)).trans e⟩, h4⟩, same_upd A2.same A2.r0, A2.r0, nd3, ⟨fun x m => ?_⟩, by rw [List.length_append]; exact few⟩
        rcases List.mem_append.mp m with m | m
        · exact (A2.ris.firm tup3).k x m
        · rw [List.mem_singleton.mp m]
          exact ⟨off, z, row, t, rfl, hm, rfl, hA.firm tup3⟩
      have look3 : lookN (xs ++ [(rkey off z, b, .ref t)]) (rkey off z) = some (.ref t) := by
        unfold lookN at hl ⊢
        rw [List.find?_append, Option.map_eq_none_iff.mp hl]
        simp
      exact ⟨_, rfl, q, T.c_Steps, dx, _, _, rfl, (upd_ne isI).trans (s2 _ _ hq1), T.cl_Steps, T.na_Steps__risen, stf_risen, _, rfl, _, rkey off z, r, b, .ref t, ⟨rfl, rfl, nd3, ky2.firm tup3 _ _, dp⟩, look3, k t _ _ A3.same (fun a us e => tup3 _ _ (s2 _ _ (s1 _ _ e))) A3 (by rw [List.length_append]; exact Nat.le_refl _) (hA.firm tup3)⟩
end
end Toy

namespace Toy
open PySem PySem.Spec PyProof.Rows L2
local macro_rules | `(tactic| walk_at "hp") => `(tactic| first
  | assumption
  | exact upd_same
  | (refine Eq.trans (upd_ne (by first | assumption | (apply Ne.symm; assumption))) ?_; walk_at "hp"))
local macro_rules | `(tactic| walk_at "side") => `(tactic| first
  | exact .inl ⟨by omega, by omega⟩
  | exact .inr ⟨by omega, by omega⟩
  | exact ⟨by omega, by omega⟩
  | (show _ ≤ _; omega)
  | (show (_ : Int) < _; omega)
  | decide
  | assumption)
local macro_rules | `(tactic| walk_at "r") => `(tactic| first
  | refine ⟨_, rfl, ?_⟩
  | refine ⟨_, _, rfl, rfl, ?_⟩
  | refine ⟨_, _, _, _, rfl, rfl, SqL.of (by walk_at "hp"), rfl, ?_⟩
  | refine ⟨_, _, _, _, rfl, rfl, SqT.of (by walk_at "hp"), rfl, ?_⟩
  | refine ⟨_, _, _, _, rfl, rfl, (by walk_at "hp"), rfl, ?_⟩
  | refine And.intro rfl ?_
  | refine ⟨_, _, rfl, SqT.of (by walk_at "hp"), ?_⟩
  | refine ⟨_, _, rfl, SqL.of (by walk_at "hp"), ?_⟩
  | refine .inl ⟨_, rfl, ?_⟩
  | refine ⟨_, _, rfl, .inl (SqL.of (by walk_at "hp")), ?_⟩
  | refine ⟨_, _, rfl, .inr (SqT.of (by walk_at "hp")), ?_⟩
  | refine ⟨_, _, rfl, .inl ⟨SqL.of (by walk_at "hp"), ?_⟩⟩
  | refine And.intro (.inl ⟨rfl, _, SqL.of (by walk_at "hp")⟩) ?_
  | refine ⟨_, _, _, rfl, rfl, (by walk_at "hp"), ?_⟩
  | refine ⟨_, _, rfl, (by walk_at "hp"), ?_⟩
  | refine And.intro (by walk_at "side") ?_)
local macro_rules | `(tactic| walk_at "rr") => `(tactic| (repeat walk_at "r"))
local macro_rules | `(tactic| walk_at "k") => `(tactic| first
  | refine ite2 (fun _ => ?_) (fun g => absurd rfl g)
  | refine ite2 (fun g => absurd g (by decide)) (fun _ => ?_)
  | refine ite2 (fun _ => ?_) (fun g => absurd (decide_eq_true (by omega)) g)
  | refine ite2 (fun g => absurd (of_decide_eq_true g) (by omega)) (fun _ => ?_)
  | refine ite2 (fun g => (nd_t g (by omega)).elim) (fun _ => ?_)
  | refine ite2 (fun _ => ?_) (fun g => absurd (nd_f g) (by omega)))
local macro_rules | `(tactic| walk_at "rk") => `(tactic| (repeat (first | walk_at "r" | walk_at "k")))
/-- costs of the posts that serve -/
def cL (n : Nat) (ws : List (List Int)) (pl : Nat) (row : List (Option Int)) : List (Option Int) := (List.range n).map fun b => (row.getD b none).map fun p => mat ws pl b + p
theorem cL_len {n pl : Nat} {ws : List (List Int)} {row : List (Option Int)} : (cL n ws pl row).length = n := by unfold cL; rw [List.length_map, List.length_range]
theorem cL_at {n pl i : Nat} {ws : List (List Int)} {row : List (Option Int)} (h : i < n) : (cL n ws pl row)[i]? = some ((row.getD i none).map fun p => mat ws pl i + p) := by
  unfold cL
  rw [List.getElem?_map, List.getElem?_range h]; rfl
def leastO (cs : List (Option Int)) : Int := minL (cs.filterMap id)
def spCosts (C : Addr) : Sp := fun vs H Q _ => ∃ (p : Addr) (S : Sys) (pl : Nat) (z : Str) (row : List (Option Int)), vs = [.ref p, .int pl, .str z] ∧ SysOk S ∧ SysAt C H p S ∧ (pl : Int) < S.n ∧ (z, row) ∈ S.rs ∧
  ∀ l G, Same H G → G l = some (.lst ((cL S.n.toNat S.ws pl row).map vO)) → Q (.ref l) G
def spLeastC : Sp := fun vs H Q _ => ∃ (a : Addr) (cs : List (Option Int)), vs = [.ref a] ∧ H a = some (.lst (cs.map vO)) ∧ (∃ x : Int, some x ∈ cs) ∧ cs.length ≤ 6 ∧ ∀ G, Same H G → Q (.int (leastO cs)) G
def spFirstC : Sp := fun vs H Q _ => ∃ (a : Addr) (cs : List (Option Int)) (j : Nat), vs = [.ref a] ∧ H a = some (.lst (cs.map vO)) ∧ cs.length ≤ 6 ∧ cs[j]? = some (some (leastO cs)) ∧ (∀ m, m < j → cs[m]? ≠ some (some (leastO cs))) ∧ ∀ G, Same H G → Q (.int j) G
section
variable {P : Program} {w : World} {K : PySem.W.Frag} {mg : Str → Option Value} {base : Heap}
theorem ok__costs (T : Top K mg) : Ok P w K mg base 4 "_costs" ["system", "place", "request"] (spCosts T.c_System) := by
  refine ok_of T.d__costs sc__costs (fun vs H Q E h => ?_) (fun f cdv A outer s H vs Q E hr h => ?_)
  · obtain ⟨p, S, pl, z, row, rfl, _⟩ := h
    rfl
  · obtain ⟨p, S, pl, z, row, rfl, ok, SA, hpl, hm, k⟩ := h
    obtain ⟨f_prices, fd_prices, M_prices, b_prices, G_prices⟩ := ok_System_prices (P := P) (w := w) (base := base) T
    have hr_prices : Room 3 _ := hr.mono (by decide)
    have hu := hu_of hr
    obtain ⟨dx, mv, na, wv, q, kvs, hp, h2, h3, ⟨wa, wvs, rfl, hwa, hwp⟩, hq, hR⟩ := id SA.ex
    have hwl : (wvs.length : Int) = S.n := by rw [prd_len hwp]; exact ok.wy.len
    obtain ⟨wr, hwr⟩ : ∃ v, wvs[pl]? = some v := ⟨_, List.getElem?_eq_getElem (by omega)⟩
    obtain ⟨wrow, hwrow, ⟨wra, rfl, hwra⟩⟩ := prd_at1 hwp hwr
    have hwl2 := ok.wy.row wrow (List.mem_of_getElem? hwrow)
    have prl : (row.length : Int) = S.n := (ok.pr _ hm).1.len
    refine ⟨_, (pss_cons (ps_set (i := 3) sc__costs.nd rfl (Or.inr rfl) (pe_ix ix_tup (pe_fld (pv 0) rfl) (pv 1) (fun _ _ => rfl)))
      (pss_one (ps_ret (pe_lc (own := [("post", 4), ("price", 5)]) rfl sc__costs.nd (pi_enumT (by rfl) T.b_enumerate (pa_cons (pe_meth (pv 0) T.cl_System M_prices G_prices hr_prices b_prices .nil passL (pa_cons (pv 2) pa_nil)) pa_nil)) (blkOk_by (own := [("post", 4), ("price", 5)]) (N := ["system", "place", "request", "ways", "post", "price"]) (sc := defScope s__costs) (by decide +kernel)) (fun _ _ _ _ _ => ((pg_tup rfl (pgs_cons (pg_name (i := 4) sc__costs.nd rfl (Or.inl rfl)) (pgs_cons (pg_name (i := 5) sc__costs.nd rfl (Or.inl rfl)) pgs_nil))) : PG _ _ (gTup K 2 (gCons (gName 4) (gCons (gName 5) gNil))))) (fun _ _ _ _ _ => pts_nil) (fun _ _ _ _ _ => (pe_ifExp (pt_cmpR op_isN (pv 5) pe_non (nomark _)) pe_non (pe_op op_add (pe_ix (ix_tup : IxR _ (rIxT K)) (pv 3) (pv 4) (fun _ _ => rfl)) (pv 5)))))))), ?_⟩
    refine ⟨_, rfl, p, T.c_System, dx, _, _, rfl, hp, T.cl_System, T.na_System_ways, sfs_ways, _, rfl, wa, _, (pl : Nat), _, rfl, rfl, SqT.of hwa, atI_nat hwr, ?_⟩
    refine ⟨_, rfl, p, dx, _, rfl, hp, sfs_no (by decide +kernel) (by decide +kernel) (by decide +kernel) (by decide +kernel) (by decide +kernel), _, rfl, p, S, .str z, "str", rfl, ok, SA, .blt rfl, fun z' row' ez hm' pv hpv => ?_, fun hno => absurd (List.mem_map.mpr ⟨_, hm, rfl⟩) (hno z rfl)⟩
    injection ez with ez
    subst ez
    obtain rfl := mem_row ok hm hm'
    obtain ⟨pa, rfl, hpa⟩ := hpv
    refine ⟨pa, _, rfl, SqT.of hpa, fun D nD => ?_⟩
    refine lc_it walk_enumT (fun i G => G D = some (.lst (((cL S.n.toNat S.ws pl row).take i).map vO)) ∧ Same H G) ⟨upd_same, same_new nD⟩ (fun i G _ h => SqT.of (h.2 _ _ hpa)) ?_ ?_
    · rintro i x G G2 hi ⟨e1, e2⟩ ⟨tp, x', y', rfl, np, rfl, g3, g4⟩
      cases g3
      obtain ⟨o, ho, rfl⟩ := map_at g4
      have il := (List.getElem?_eq_some_iff.mp ho).1
      have s9 : Same G (upd G tp (.tup [.int (i : Nat), vO o])) := same_new np
      have sG := e2.trans s9
      have og : row.getD i none = o := by rw [List.getD_eq_getElem?_getD, ho]; rfl
      have ct := cL_at (n := S.n.toNat) (pl := pl) (ws := S.ws) (row := row) (i := i) (by omega)
      rw [og] at ct
      have small : (((cL S.n.toNat S.ws pl row).take i).map vO).length < sizeLine := by
        rw [List.length_map, List.length_take]
        have n6 := ok.n6
        exact small1000 (by omega)
      refine ⟨tp, _, rfl, SqT.of upd_same, rfl, _, _, rfl, _, _, rfl, rfl, rfl, ?_⟩
      refine yesT ?_
      cases o with
      | none =>
        refine ⟨_, rfl, rfl, _, rfl, ite2 (fun _ => ?_) (fun g => absurd rfl g)⟩
        refine ⟨_, s9 _ _ e1, small, ?_, same_upd sG nD⟩
        rw [upd_same, List.take_add_one, ct, List.map_append]; rfl
      | some y =>
        refine ⟨_, rfl, rfl, _, rfl, ite2 (fun g => nomatch of_decide_eq_true g) (fun _ => ?_)⟩
        have wa2 : (wrow.map V.int)[i]? = some (.int (mat S.ws pl i)) := by
          rw [List.getElem?_map, getDat 0 (by omega), mat_at hwrow]; rfl
        refine ⟨_, rfl, _, rfl, wra, _, (i : Nat), _, rfl, rfl, SqT.of (sG _ _ hwra), atI_nat wa2, _, rfl, _, _, rfl, rfl, ?_⟩
        refine ⟨_, s9 _ _ e1, small, ?_, same_upd sG nD⟩
        rw [upd_same, List.take_add_one, ct, List.map_append]; rfl
    · rintro G ⟨e1, e2⟩
      rw [List.length_map, show row.length = (cL S.n.toNat S.ws pl row).length from by rw [cL_len]; omega, List.take_length] at e1
      exact k D G e2 e1
theorem ok__least (T : Top K mg) : Ok P w K mg base 1 "_least" ["costs"] spLeastC := by
  refine ok_of T.d__least sc__least (fun vs H Q E h => ?_) (fun f cdv A outer s H vs Q E hr h => ?_)
  · obtain ⟨a, cs, rfl, _⟩ := h
    rfl
  · obtain ⟨a, cs, rfl, ha, c1, c6, k⟩ := h
    skip
    refine ⟨_, (pss_one (ps_ret (pe_callB (id := "min") (cr_min rfl) (by rfl) T.b_min (by decide +kernel) (pa_cons (pe_lc (own := [("cost", 1)]) (g := gName 1) rfl sc__least.nd (pi_list (pv 0)) (blkOk_by (own := [("cost", 1)]) (N := ["costs", "cost"]) (sc := defScope s__least) (by decide +kernel)) (fun _ _ _ _ _ => (pg_name (i := 1) sc__least.nd rfl (Or.inl rfl))) (fun _ _ _ _ _ => (pts_one (pt_cmpR op_notN (pv 1) pe_non (nomark _)))) (fun _ _ _ _ _ => (pv 1))) pa_nil)))), ?_⟩
    refine ⟨_, rfl, a, rfl, ⟨_, SqL.of ha⟩, fun F nF => ?_⟩
    refine lc_list (K := K) (a := a) (xs := cs.map vO) (fun i G2 => G2 F = some (.lst (((cs.take i).filterMap id).map V.int)) ∧ Same H G2) ⟨upd_same, same_new nF⟩ (fun i G2 _ h2 => SqL.of (h2.2 _ _ ha)) ?_ ?_
    · rintro i x G2 hi ⟨e1, e2⟩
      obtain ⟨o, ho, rfl⟩ := map_at hi
      have hil := (List.getElem?_eq_some_iff.mp ho).1
      refine ⟨rfl, ?_⟩
      cases o with
      | none =>
        refine ⟨_, rfl, rfl, _, rfl, ite2 (fun g => absurd g (by decide)) (fun _ => ⟨?_, e2⟩)⟩
        rw [e1, List.take_add_one, ho, List.filterMap_append]
        simp
      | some y =>
        refine ⟨_, rfl, rfl, _, rfl, ite2 (fun _ => ?_) (fun g => absurd rfl g)⟩
        refine ⟨_, rfl, _, e1, ?_, ?_, same_upd e2 nF⟩
        · rw [List.length_map]
          exact small1000 (Nat.le_trans (List.length_filterMap_le _ _) (by rw [List.length_take]; omega))
        · rw [upd_same, List.take_add_one, ho, List.filterMap_append, List.map_append]
          rfl
    rintro G2 ⟨e1, e2⟩
    rw [List.length_map, List.take_length] at e1
    obtain ⟨x, hx⟩ := c1
    have hp : 0 < (cs.filterMap id).length := List.length_pos_of_mem (List.mem_filterMap.mpr ⟨some x, hx, rfl⟩)
    refine ⟨F, _, rfl, SqL.of e1, by omega, fun m hm hle => ?_⟩
    have em : leastO cs = m := minL_eq hm hle
    rw [← em]
    exact k _ e2
theorem ok__first_least (T : Top K mg) : Ok P w K mg base 2 "_first_least" ["costs"] spFirstC := by
  refine ok_of T.d__first_least sc__first_least (fun vs H Q E h => ?_) (fun f cdv A outer s H vs Q E hr h => ?_)
  · obtain ⟨a, cs, j, rfl, _⟩ := h
    rfl
  · obtain ⟨a, cs, j, rfl, ha, c6, hj, hlt, k⟩ := h
    obtain ⟨f__least, fd__least, m__least, k__least, b__least, G__least⟩ := ok__least (P := P) (w := w) (base := base) T
    have hr__least : Room 1 _ := hr.mono (by decide)
    refine ⟨_, (pss_one (ps_ret (pe_bm PySem.F.plainAttrs_list PySem.F.slot_list_index PySem.F.type_list_index mt_index (pv 0) (pa_cons (pe_call G__least hr__least rfl m__least k__least b__least .nil pass0 (pa_cons (pv 0) pa_nil)) pa_nil)))), ?_⟩
    refine ⟨_, rfl, .inl ⟨rfl, _, SqL.of ha⟩, ?_⟩
    refine ⟨_, rfl, a, cs, rfl, ha, ⟨_, List.mem_of_getElem? hj⟩, c6, fun G s1 => ?_⟩
    refine ⟨a, cs.map vO, .int (leastO cs), j, .int (leastO cs), rfl, rfl, SqL.of (s1 _ _ ha), rfl, flat_vO cs, by rw [List.getElem?_map, hj]; rfl, ?_, fun m z' hm hz => ?_, k _ s1⟩
    · simp [eqV]
    · obtain ⟨o, ho, rfl⟩ := map_at hz
      have ne := hlt m hm
      rw [ho] at ne
      cases o with
      | none => rfl
      | some y =>
        have : ¬ y = leastO cs := fun q => ne (by rw [q])
        simp [vO, eqV, this]
end
end Toy

namespace Toy
open PySem PySem.Spec PyProof.Rows L2
local macro_rules | `(tactic| walk_at "hp") => `(tactic| first
  | assumption
  | exact upd_same
  | (refine Eq.trans (upd_ne (by first | assumption | (apply Ne.symm; assumption))) ?_; walk_at "hp"))
local macro_rules | `(tactic| walk_at "side") => `(tactic| first
  | exact .inl ⟨by omega, by omega⟩
  | exact .inr ⟨by omega, by omega⟩
  | exact ⟨by omega, by omega⟩
  | (show _ ≤ _; omega)
  | (show (_ : Int) < _; omega)
  | decide
  | assumption)
local macro_rules | `(tactic| walk_at "r") => `(tactic| first
  | refine ⟨_, rfl, ?_⟩
  | refine ⟨_, _, rfl, rfl, ?_⟩
  | refine ⟨_, _, _, _, rfl, rfl, SqL.of (by walk_at "hp"), rfl, ?_⟩
  | refine ⟨_, _, _, _, rfl, rfl, SqT.of (by walk_at "hp"), rfl, ?_⟩
  | refine ⟨_, _, _, _, rfl, rfl, (by walk_at "hp"), rfl, ?_⟩
  | refine And.intro rfl ?_
  | refine ⟨_, _, rfl, SqT.of (by walk_at "hp"), ?_⟩
  | refine ⟨_, _, rfl, SqL.of (by walk_at "hp"), ?_⟩
  | refine .inl ⟨_, rfl, ?_⟩
  | refine ⟨_, _, rfl, .inl (SqL.of (by walk_at "hp")), ?_⟩
  | refine ⟨_, _, rfl, .inr (SqT.of (by walk_at "hp")), ?_⟩
  | refine ⟨_, _, rfl, .inl ⟨SqL.of (by walk_at "hp"), ?_⟩⟩
  | refine And.intro (.inl ⟨rfl, _, SqL.of (by walk_at "hp")⟩) ?_
  | refine ⟨_, _, _, rfl, rfl, (by walk_at "hp"), ?_⟩
  | refine ⟨_, _, rfl, (by walk_at "hp"), ?_⟩
  | refine And.intro (by walk_at "side") ?_)
local macro_rules | `(tactic| walk_at "rr") => `(tactic| (repeat walk_at "r"))
local macro_rules | `(tactic| walk_at "k") => `(tactic| first
  | refine ite2 (fun _ => ?_) (fun g => absurd rfl g)
  | refine ite2 (fun g => absurd g (by decide)) (fun _ => ?_)
  | refine ite2 (fun _ => ?_) (fun g => absurd (decide_eq_true (by omega)) g)
  | refine ite2 (fun g => absurd (of_decide_eq_true g) (by omega)) (fun _ => ?_)
  | refine ite2 (fun g => (nd_t g (by omega)).elim) (fun _ => ?_)
  | refine ite2 (fun _ => ?_) (fun g => absurd (nd_f g) (by omega)))
local macro_rules | `(tactic| walk_at "rk") => `(tactic| (repeat (first | walk_at "r" | walk_at "k")))
/-- costs with those of what is hinted -/
def tL (n : Nat) (ws : List (List Int)) (later : List (Option Int)) (cs : List (Option Int)) : List (Option Int) := (List.range n).map fun b => (cs.getD b none).map fun c => c + leastO (cL n ws b later)
/-- ways and offsets of the posts that serve -/
def ocL (n : Nat) (ws : List (List Int)) (pl : Nat) (off : List Int) (row : List (Option Int)) : List (Option Int) := (List.range n).map fun b => (row.getD b none).map fun _ => mat ws pl b + off.getD b 0
theorem rmap_at {n i : Nat} {f : Nat → Option Int} (h : i < n) : ((List.range n).map f)[i]? = some (f i) := by rw [List.getElem?_map, List.getElem?_range h]; rfl
theorem some_cL {n pl : Nat} {ws : List (List Int)} {row : List (Option Int)} (hl : row.length = n) (h : ∃ x : Int, some x ∈ row) : ∃ x : Int, some x ∈ cL n ws pl row := by
  obtain ⟨x, mx⟩ := h
  obtain ⟨i, hi⟩ := List.getElem?_of_mem mx
  have il := (List.getElem?_eq_some_iff.mp hi).1
  refine ⟨mat ws pl i + x, List.mem_of_getElem? (i := i) ?_⟩
  rw [cL_at (by omega), List.getD_eq_getElem?_getD, hi]; rfl
def TrOf (S : Sys) (hv : V) (cs ts : List (Option Int)) : Prop := (hv = .non ∧ ts = cs) ∨ ∃ z later, hv = .str z ∧ (z, later) ∈ S.rs ∧ ts = tL S.n.toNat S.ws later cs
def spTrusting (C : Addr) : Sp := fun vs H Q _ => ∃ (p a : Addr) (S : Sys) (cs ts : List (Option Int)) (hv : V), vs = [.ref p, .ref a, hv] ∧ SysOk S ∧ SysAt C H p S ∧ H a = some (.lst (cs.map vO)) ∧ cs.length = S.n.toNat ∧ TrOf S hv cs ts ∧ ∀ l G, Same H G → G l = some (.lst (ts.map vO)) → Q (.ref l) G
def spOffCosts (P : Program) (w : World) (CS CT : Addr) : Sp := fun vs H Q _ => ∃ (q r va oa : Addr) (S : Sys) (ts : List (List (Str × Int))) (mo : Str) (xs : List NEnt) (H0 : Hp) (s : Int) (pl : Nat) (off : List Int) (hv : V) (z : Str) (row : List (Option Int)), vs = [.ref q, .ref va, .str z] ∧ SysOk S ∧ StN P w CS CT H0 H q r S ts mo xs ∧
  H va = some (.tup [.int s, .int pl, .ref oa, hv]) ∧ H oa = some (.tup (off.map V.int)) ∧ off.length = S.n.toNat ∧ (pl : Int) < S.n ∧ (z, row) ∈ S.rs ∧ xs.length < 8000000 ∧ ∀ l G, Same H0 G → G l = some (.lst ((ocL S.n.toNat S.ws pl (newOff (rawL S.n.toNat S.ws (srv S.n.toNat off row))) row).map vO)) → Q (.ref l) G
section
variable {P : Program} {w : World} {K : PySem.W.Frag} {mg : Str → Option Value} {base : Heap}
theorem ok__trusting (T : Top K mg) : Ok P w K mg base 5 "_trusting" ["system", "costs", "hint"] (spTrusting T.c_System) := by
  refine ok_of T.d__trusting sc__trusting (fun vs H Q E h => ?_) (fun f cdv A outer s H vs Q E hr h => ?_)
  · obtain ⟨p, a, S, cs, ts, hv, rfl, _⟩ := h
    rfl
  · obtain ⟨p, a, S, cs, ts, hv, rfl, ok, SA, ha, cl, hT, k⟩ := h
    obtain ⟨f__least, fd__least, m__least, k__least, b__least, G__least⟩ := ok__least (P := P) (w := w) (base := base) T
    have hr__least : Room 1 _ := hr.mono (by decide)
    obtain ⟨f__costs, fd__costs, m__costs, k__costs, b__costs, G__costs⟩ := ok__costs (P := P) (w := w) (base := base) T
    have hr__costs : Room 4 _ := hr.mono (by decide)
    have n6 := ok.n6
    have n1 := ok.n1
    refine ⟨_, (pss_cons (ps_if (pt_cmpR op_isN (pv 2) pe_non (nomark _))
      (pss_one (ps_ret (pv 1)))
      pss_nil)
      (pss_one (ps_ret (pe_lc (own := [("post", 3), ("cost", 4)]) rfl sc__trusting.nd (pi_enum (by rfl) T.b_enumerate (pa_cons (pv 1) pa_nil)) (blkOk_by (own := [("post", 3), ("cost", 4)]) (N := ["system", "costs", "hint", "post", "cost"]) (sc := defScope s__trusting) (by decide +kernel)) (fun _ _ _ _ _ => ((pg_tup rfl (pgs_cons (pg_name (i := 3) sc__trusting.nd rfl (Or.inl rfl)) (pgs_cons (pg_name (i := 4) sc__trusting.nd rfl (Or.inl rfl)) pgs_nil))) : PG _ _ (gTup K 2 (gCons (gName 3) (gCons (gName 4) gNil))))) (fun _ _ _ _ _ => pts_nil) (fun _ _ _ _ _ => (pe_ifExp (pt_cmpR op_isN (pv 4) pe_non (nomark _)) pe_non (pe_op op_add (pv 4) (pe_call G__least hr__least rfl m__least k__least b__least .nil pass0 (pa_cons (pe_call G__costs hr__costs rfl m__costs k__costs b__costs .nil pass0 (pa_cons (pv 0) (pa_cons (pv 3) (pa_cons (pv 2) pa_nil)))) pa_nil))))))))), ?_⟩
    rcases hT with ⟨rfl, rfl⟩ | ⟨z, later, rfl, hm, rfl⟩
    · refine ⟨_, rfl, rfl, _, rfl, ?_⟩
      refine ite2 (fun _ => ?_) (fun g => absurd rfl g)
      exact ⟨_, rfl, k a H (fun _ _ h => h) ha⟩
    · refine ⟨_, rfl, rfl, _, rfl, ?_⟩
      refine ite2 (fun g => nomatch of_decide_eq_true g) (fun _ => ?_)
      have pr := (ok.pr _ hm).1
      have prl : (later.length : Int) = S.n := pr.len
      refine ⟨_, rfl, a, _, rfl, SqL.of ha, fun D nD => ?_⟩
      refine lc_it walk_enum (fun i G => G D = some (.lst (((tL S.n.toNat S.ws later cs).take i).map vO)) ∧ Same H G) ⟨upd_same, same_new nD⟩ (fun i G _ h => SqL.of (h.2 _ _ ha)) ?_ ?_
      · rintro i x G G2 hi ⟨e1, e2⟩ ⟨tp, x', y', rfl, np, rfl, g3, g4⟩
        cases g3
        obtain ⟨o, ho, rfl⟩ := map_at g4
        have il := (List.getElem?_eq_some_iff.mp ho).1
        have s9 : Same G (upd G tp (.tup [.int (i : Nat), vO o])) := same_new np
        have sG := e2.trans s9
        have og : cs.getD i none = o := by rw [List.getD_eq_getElem?_getD, ho]; rfl
        have ct := rmap_at (n := S.n.toNat) (f := fun b => (cs.getD b none).map fun c => c + leastO (cL S.n.toNat S.ws b later)) (i := i) (by omega)
        rw [og] at ct
        have tl : (tL S.n.toNat S.ws later cs).length = S.n.toNat := by unfold tL; rw [List.length_map, List.length_range]
        have small : (((tL S.n.toNat S.ws later cs).take i).map vO).length < sizeLine := by
          rw [List.length_map, List.length_take]
          exact small1000 (by omega)
        refine ⟨tp, _, rfl, SqT.of upd_same, rfl, _, _, rfl, _, _, rfl, rfl, rfl, ?_⟩
        refine yesT ?_
        have e1' := s9 _ _ e1
        generalize upd G tp (.tup [.int (i : Nat), vO o]) = G9 at *
        cases o with
        | none =>
          refine ⟨_, rfl, rfl, _, rfl, ite2 (fun _ => ?_) (fun g => absurd rfl g)⟩
          refine ⟨_, e1', small, ?_, same_upd sG nD⟩
          rw [upd_same, List.take_add_one, show (tL S.n.toNat S.ws later cs)[i]? = _ from ct, List.map_append]; rfl
        | some y =>
          refine ⟨_, rfl, rfl, _, rfl, ite2 (fun g => nomatch of_decide_eq_true g) (fun _ => ?_)⟩
          refine ⟨_, rfl, _, rfl, _, rfl, _, rfl, p, S, i, z, later, rfl, ok, SA.same sG, by omega, hm, fun l G3 s3 e3 => ?_⟩
          refine ⟨l, _, rfl, e3, some_cL (by omega) pr.some, by rw [cL_len]; omega, fun G4 s4 => ?_⟩
          refine ⟨_, _, rfl, rfl, ?_⟩
          have s34 := s3.trans s4
          refine ⟨_, s34 _ _ e1', small, ?_, same_upd (sG.trans s34) nD⟩
          rw [upd_same, List.take_add_one, show (tL S.n.toNat S.ws later cs)[i]? = _ from ct, List.map_append]; rfl
      · rintro G ⟨e1, e2⟩
        rw [List.length_map, show cs.length = (tL S.n.toNat S.ws later cs).length from by unfold tL; rw [List.length_map, List.length_range]; omega, List.take_length] at e1
        exact k D G e2 e1
theorem ok__offset_costs (T : Top K mg) : Ok P w K mg base 6 "_offset_costs" ["steps", "view", "request"] (spOffCosts P w T.c_System T.c_Steps) := by
  refine ok_of T.d__offset_costs sc__offset_costs (fun vs H Q E h => ?_) (fun f cdv A outer s H vs Q E hr h => ?_)
  · obtain ⟨q, r, va, oa, S, ts, mo, xs, H0, s, pl, off, hv, z, row, rfl, _⟩ := h
    rfl
  · obtain ⟨q, r, va, oa, S, ts, mo, xs, H0, s0, pl, off, hv, z, row, rfl, ok, A, hva, hoa, ol, hpl, hm, few, k⟩ := h
    obtain ⟨f_risen_by, fd_risen_by, M_risen_by, b_risen_by, G_risen_by⟩ := ok_Steps_risen_by (P := P) (w := w) (base := base) T
    have hr_risen_by : Room 5 _ := hr.mono (by decide)
    obtain ⟨f_prices, fd_prices, M_prices, b_prices, G_prices⟩ := ok_System_prices (P := P) (w := w) (base := base) T
    have hr_prices : Room 3 _ := hr.mono (by decide)
    have hu64 := hr.units
    obtain ⟨dx, p, ta, ds, hq, SA, hT, hne⟩ := id A.ex
    refine ⟨_, (pss_cons (ps_asg (pe_meth (pv 0) T.cl_Steps M_risen_by G_risen_by hr_risen_by b_risen_by .nil passL (pa_cons (pe_ix ix_tup (pv 1) pe_int (fun _ _ => rfl)) (pa_cons (pv 2) pa_nil))) (pg_tup rfl (pgs_cons (pg_name (i := 3) sc__offset_costs.nd rfl (Or.inr rfl)) (pgs_cons (pg_name (i := 4) sc__offset_costs.nd rfl (Or.inl rfl)) pgs_nil))))
      (pss_cons (ps_set (i := 5) sc__offset_costs.nd rfl (Or.inr rfl) (pe_ix ix_tup (pe_fld (pe_fld (pv 0) rfl) rfl) (pe_ix ix_tup (pv 1) pe_int (fun _ _ => rfl)) (fun _ _ => rfl)))
      (pss_cons (ps_set (i := 6) sc__offset_costs.nd rfl (Or.inl rfl) (pe_meth (pe_fld (pv 0) rfl) T.cl_System M_prices G_prices hr_prices b_prices .nil passL (pa_cons (pv 2) pa_nil)))
      (pss_one (ps_ret (pe_lc (own := [("post", 7), ("price", 8)]) rfl sc__offset_costs.nd (pi_enumT (by rfl) T.b_enumerate (pa_cons (pv 6) pa_nil)) (blkOk_by (own := [("post", 7), ("price", 8)]) (N := ["steps", "view", "request", "offsets", "_", "ways", "prices", "post", "price"]) (sc := defScope s__offset_costs) (by decide +kernel)) (fun _ _ _ _ _ => ((pg_tup rfl (pgs_cons (pg_name (i := 7) sc__offset_costs.nd rfl (Or.inl rfl)) (pgs_cons (pg_name (i := 8) sc__offset_costs.nd rfl (Or.inl rfl)) pgs_nil))) : PG _ _ (gTup K 2 (gCons (gName 7) (gCons (gName 8) gNil))))) (fun _ _ _ _ _ => pts_nil) (fun _ _ _ _ _ => (pe_ifExp (pt_cmpR op_isN (pv 8) pe_non (nomark _)) pe_non (pe_op op_add (pe_ix (ix_tup : IxR _ (rIxT K)) (pv 5) (pv 7) (fun _ _ => rfl)) (pe_ix (ix_tup : IxR _ (rIxT K)) (pv 3) (pv 7) (fun _ _ => rfl))))))))))), ?_⟩
    refine ⟨_, rfl, q, dx, _, rfl, hq, stf_no (by decide +kernel) (by decide +kernel) (by decide +kernel) (by decide +kernel), _, rfl, va, _, 2, .ref oa, rfl, rfl, SqT.of hva, rfl, _, rfl, q, r, S, ts, mo, xs, H0, .ref oa, off, z, row, rfl, ok, A, ⟨oa, rfl, hoa⟩, ol, hm, few, fun t G ys s1 tups A1 few1 hA => ?_⟩
    obtain ⟨tv, ht, na0, etv, hna0⟩ := hA
    subst etv
    refine ⟨t, _, rfl, SqT.of ht, rfl, _, _, rfl, _, _, rfl, rfl, ?_⟩
    obtain ⟨dx1, p1, ta1, ds1, hq1, SA1', hT1, hne1⟩ := A1.ex
    have SA1 := SA1'.same A1.same
    obtain ⟨dxp, mv, na, wv, q', kvs, hp, h2, h3, ⟨wa, wvs, rfl, hwa, hwp⟩, hq', hR⟩ := id SA1.ex
    have hwl : (wvs.length : Int) = S.n := by rw [prd_len hwp]; exact ok.wy.len
    obtain ⟨wr, hwr⟩ : ∃ v, wvs[pl]? = some v := ⟨_, List.getElem?_eq_getElem (by omega)⟩
    obtain ⟨wrow, hwrow, ⟨wra, rfl, hwra⟩⟩ := prd_at1 hwp hwr
    have hwl2 := ok.wy.row wrow (List.mem_of_getElem? hwrow)
    have prl : (row.length : Int) = S.n := (ok.pr _ hm).1.len
    have hva1 := tups _ _ hva
    have n1 := ok.n1
    have n6 := ok.n6
    have nol : (newOff (rawL S.n.toNat S.ws (srv S.n.toNat off row))).length = S.n.toNat := by
      unfold newOff
      rw [List.length_map, rawL_len]
    generalize newOff (rawL S.n.toNat S.ws (srv S.n.toNat off row)) = nof at *
    refine ⟨_, rfl, q, T.c_Steps, dx1, _, _, rfl, hq1, T.cl_Steps, T.na_Steps_system, stf_system, p1, T.c_System, dxp, _, _, rfl, hp, T.cl_System, T.na_System_ways, sfs_ways, ?_⟩
    refine ⟨_, rfl, va, _, 1, .int pl, rfl, rfl, SqT.of hva1, rfl, wa, _, (pl : Nat), _, rfl, rfl, SqT.of hwa, atI_nat hwr, ?_⟩
    refine ⟨_, rfl, q, T.c_Steps, dx1, _, _, rfl, hq1, T.cl_Steps, T.na_Steps_system, stf_system, ?_⟩
    refine ⟨p1, dxp, _, rfl, hp, sfs_no (by decide +kernel) (by decide +kernel) (by decide +kernel) (by decide +kernel) (by decide +kernel), _, rfl, p1, S, .str z, "str", rfl, ok, SA1, .blt rfl, fun z' row' ez hm' pv hpv => ?_, fun hno => absurd (List.mem_map.mpr ⟨_, hm, rfl⟩) (hno z rfl)⟩
    injection ez with ez
    subst ez
    obtain rfl := mem_row ok hm hm'
    obtain ⟨pa, rfl, hpa⟩ := hpv
    refine ⟨_, rfl, pa, _, rfl, SqT.of hpa, fun D nD => ?_⟩
    refine lc_it walk_enumT (fun i G2 => G2 D = some (.lst (((ocL S.n.toNat S.ws pl nof row).take i).map vO)) ∧ Same G G2) ⟨upd_same, same_new nD⟩ (fun i G2 _ h => SqT.of (h.2 _ _ hpa)) ?_ ?_
    · rintro i x G2 G3 hi ⟨e1, e2⟩ ⟨tp, x', y', rfl, np, rfl, g3, g4⟩
      cases g3
      obtain ⟨o, ho, rfl⟩ := map_at g4
      have il := (List.getElem?_eq_some_iff.mp ho).1
      have s9 : Same G2 (upd G2 tp (.tup [.int (i : Nat), vO o])) := same_new np
      have sG := e2.trans s9
      have og : row.getD i none = o := by rw [List.getD_eq_getElem?_getD, ho]; rfl
      have ct := rmap_at (n := S.n.toNat) (f := fun b => (row.getD b none).map fun _ => mat S.ws pl b + nof.getD b 0) (i := i) (by omega)
      rw [og] at ct
      have tl : (ocL S.n.toNat S.ws pl nof row).length = S.n.toNat := by unfold ocL; rw [List.length_map, List.length_range]
      have small : (((ocL S.n.toNat S.ws pl nof row).take i).map vO).length < sizeLine := by
        rw [List.length_map, List.length_take]
        exact small1000 (by omega)
      refine ⟨tp, _, rfl, SqT.of upd_same, rfl, _, _, rfl, _, _, rfl, rfl, rfl, ?_⟩
      refine yesT ?_
      have e1' := s9 _ _ e1
      generalize upd G2 tp (.tup [.int (i : Nat), vO o]) = G9 at *
      cases o with
      | none =>
        refine ⟨_, rfl, rfl, _, rfl, ite2 (fun _ => ?_) (fun g => absurd rfl g)⟩
        refine ⟨_, e1', small, ?_, same_upd sG nD⟩
        rw [upd_same, List.take_add_one, show (ocL S.n.toNat S.ws pl nof row)[i]? = _ from ct, List.map_append]; rfl
      | some y =>
        refine ⟨_, rfl, rfl, _, rfl, ite2 (fun g => nomatch of_decide_eq_true g) (fun _ => ?_)⟩
        have wa2 : (wrow.map V.int)[i]? = some (.int (mat S.ws pl i)) := by
          rw [List.getElem?_map, getDat 0 (by omega), mat_at hwrow]; rfl
        have no2 : (nof.map V.int)[i]? = some (.int (nof.getD i 0)) := by rw [List.getElem?_map, getDat 0 (by omega)]; rfl
        refine ⟨_, rfl, _, rfl, wra, _, (i : Nat), _, rfl, rfl, SqT.of (sG _ _ hwra), atI_nat wa2, _, rfl, _, rfl, na0, _, (i : Nat), _, rfl, rfl, SqT.of (sG _ _ hna0), atI_nat no2, _, _, rfl, rfl, ?_⟩
        refine ⟨_, e1', small, ?_, same_upd sG nD⟩
        rw [upd_same, List.take_add_one, show (ocL S.n.toNat S.ws pl nof row)[i]? = _ from ct, List.map_append]; rfl
    · rintro G2 ⟨e1, e2⟩
      rw [List.length_map, show row.length = (ocL S.n.toNat S.ws pl nof row).length from by unfold ocL; rw [List.length_map, List.length_range]; omega, List.take_length] at e1
      exact k D G2 (A1.same.trans e2) e1
end
end Toy

namespace Toy
open PySem PySem.Spec PyProof.Rows L2
local macro_rules | `(tactic| walk_at "hp") => `(tactic| first
  | assumption
  | exact upd_same
  | (refine Eq.trans (upd_ne (by first | assumption | (apply Ne.symm; assumption))) ?_; walk_at "hp"))
local macro_rules | `(tactic| walk_at "side") => `(tactic| first
  | exact .inl ⟨by omega, by omega⟩
  | exact .inr ⟨by omega, by omega⟩
  | exact ⟨by omega, by omega⟩
  | (show _ ≤ _; omega)
  | (show (_ : Int) < _; omega)
  | decide
  | assumption)
local macro_rules | `(tactic| walk_at "r") => `(tactic| first
  | refine ⟨_, rfl, ?_⟩
  | refine ⟨_, _, rfl, rfl, ?_⟩
  | refine ⟨_, _, _, _, rfl, rfl, SqL.of (by walk_at "hp"), rfl, ?_⟩
  | refine ⟨_, _, _, _, rfl, rfl, SqT.of (by walk_at "hp"), rfl, ?_⟩
  | refine ⟨_, _, _, _, rfl, rfl, (by walk_at "hp"), rfl, ?_⟩
  | refine And.intro rfl ?_
  | refine ⟨_, _, rfl, SqT.of (by walk_at "hp"), ?_⟩
  | refine ⟨_, _, rfl, SqL.of (by walk_at "hp"), ?_⟩
  | refine .inl ⟨_, rfl, ?_⟩
  | refine ⟨_, _, rfl, .inl (SqL.of (by walk_at "hp")), ?_⟩
  | refine ⟨_, _, rfl, .inr (SqT.of (by walk_at "hp")), ?_⟩
  | refine ⟨_, _, rfl, .inl ⟨SqL.of (by walk_at "hp"), ?_⟩⟩
  | refine And.intro (.inl ⟨rfl, _, SqL.of (by walk_at "hp")⟩) ?_
  | refine ⟨_, _, _, rfl, rfl, (by walk_at "hp"), ?_⟩
  | refine ⟨_, _, rfl, (by walk_at "hp"), ?_⟩
  | refine And.intro (by walk_at "side") ?_)
local macro_rules | `(tactic| walk_at "rr") => `(tactic| (repeat walk_at "r"))
local macro_rules | `(tactic| walk_at "k") => `(tactic| first
  | refine ite2 (fun _ => ?_) (fun g => absurd rfl g)
  | refine ite2 (fun g => absurd g (by decide)) (fun _ => ?_)
  | refine ite2 (fun _ => ?_) (fun g => absurd (decide_eq_true (by omega)) g)
  | refine ite2 (fun g => absurd (of_decide_eq_true g) (by omega)) (fun _ => ?_)
  | refine ite2 (fun g => (nd_t g (by omega)).elim) (fun _ => ?_)
  | refine ite2 (fun _ => ?_) (fun g => absurd (nd_f g) (by omega)))
local macro_rules | `(tactic| walk_at "rk") => `(tactic| (repeat (first | walk_at "r" | walk_at "k")))
/-- the first of the least costs -/
def IsFst (cs : List (Option Int)) (p : Nat) : Prop := cs[p]? = some (some (leastO cs)) ∧ ∀ m, m < p → cs[m]? ≠ some (some (leastO cs))
theorem leastO_mem {cs : List (Option Int)} (h : ∃ x : Int, some x ∈ cs) : some (leastO cs) ∈ cs := by
  obtain ⟨x, hx⟩ := h
  have ne : cs.filterMap id ≠ [] := List.ne_nil_of_mem (List.mem_filterMap.mpr ⟨some x, hx, rfl⟩)
  obtain ⟨o, ho, e⟩ := List.mem_filterMap.mp (minL_mem ne)
  have e : o = some (minL (cs.filterMap id)) := e
  rw [e] at ho
  exact ho
theorem leastO_le {cs : List (Option Int)} {x : Int} (h : some x ∈ cs) : leastO cs ≤ x := minL_le (List.mem_filterMap.mpr ⟨some x, h, rfl⟩)
theorem fst_ex {cs : List (Option Int)} (h : ∃ x : Int, some x ∈ cs) : ∃ p, IsFst cs p := by
  have go : ∀ (k : Nat), (∃ p, p < k ∧ cs[p]? = some (some (leastO cs))) → ∃ p, IsFst cs p := by
    intro k
    induction k with
    | zero => rintro ⟨p, hp, _⟩; exact absurd hp (Nat.not_lt_zero _)
    | succ k ih =>
      rintro ⟨p, hp, e⟩
      by_cases q : ∃ p', p' < k ∧ cs[p']? = some (some (leastO cs))
      · exact ih q
      · refine ⟨p, e, fun m hm e2 => q ⟨m, by omega, e2⟩⟩
  obtain ⟨i, hi⟩ := List.getElem?_of_mem (leastO_mem h)
  exact go (i + 1) ⟨i, Nat.lt_succ_self _, hi⟩
/-- the costs that a style goes by -/
def CsOf (S : Sys) (pl : Nat) (off : List Int) (row : List (Option Int)) (hv : V) (st : Str) (cs : List (Option Int)) : Prop :=
  (st = "offset" ∧ cs = ocL S.n.toNat S.ws pl (newOff (rawL S.n.toNat S.ws (srv S.n.toNat off row))) row) ∨ (¬ st = "offset" ∧ st = "trust" ∧ TrOf S hv (cL S.n.toNat S.ws pl row) cs) ∨ (¬ st = "offset" ∧ ¬ st = "trust" ∧ cs = cL S.n.toNat S.ws pl row)
theorem CsOf.len {S : Sys} {pl : Nat} {off : List Int} {row : List (Option Int)} {hv : V} {st : Str} {cs : List (Option Int)} (c : CsOf S pl off row hv st cs) : cs.length = S.n.toNat := by
  rcases c with ⟨_, rfl⟩ | ⟨_, _, (⟨_, rfl⟩ | ⟨_, _, _, _, rfl⟩)⟩ | ⟨_, _, rfl⟩
  · unfold ocL; rw [List.length_map, List.length_range]
  · exact cL_len
  · unfold tL; rw [List.length_map, List.length_range]
  · exact cL_len
theorem dec_str2 {a b : Str} : decide (V.str a = V.str b) = decide (a = b) := by
  rw [Bool.eq_iff_iff, decide_eq_true_iff, decide_eq_true_iff]
  exact ⟨fun z => by injection z, fun z => by rw [z]⟩
def spChosen (P : Program) (w : World) (CS CT : Addr) : Sp := fun vs H Q _ => ∃ (q r va oa ak : Addr) (S : Sys) (ts : List (List (Str × Int))) (mo : Str) (xs : List NEnt) (H0 : Hp) (s : Int) (pl : Nat) (off : List Int) (hv : V) (z : Str) (hh : V) (row : List (Option Int)) (st : Str) (cs : List (Option Int)) (pp : Nat), vs = [.ref q, .str st, .ref va, .ref ak] ∧ SysOk S ∧ StN P w CS CT H0 H q r S ts mo xs ∧
  H va = some (.tup [.int s, .int pl, .ref oa, hv]) ∧ H oa = some (.tup (off.map V.int)) ∧ off.length = S.n.toNat ∧ (pl : Int) < S.n ∧ H ak = some (.tup [.str z, hh]) ∧ (z, row) ∈ S.rs ∧ xs.length < 8000000 ∧ CsOf S pl off row hh st cs ∧ IsFst cs pp ∧
  (st = "calm" → row.getD pl none = some 0 → ∀ G, Same H0 G → Q (.int pl) G) ∧ (¬ (st = "calm" ∧ row.getD pl none = some 0) → ∀ G, Same H0 G → Q (.int pp) G)
section
variable {P : Program} {w : World} {K : PySem.W.Frag} {mg : Str → Option Value} {base : Heap}
theorem ok_chosen_post (T : Top K mg) : Ok P w K mg base 7 "chosen_post" ["steps", "style", "view", "ask"] (spChosen P w T.c_System T.c_Steps) := by
  refine ok_of T.d_chosen_post sc_chosen_post (fun vs H Q E h => ?_) (fun f cdv A outer s H vs Q E hr h => ?_)
  · obtain ⟨q, r, va, oa, ak, S, ts, mo, xs, H0, s, pl, off, hv, z, hh, row, st, cs, pp, rfl, _⟩ := h
    rfl
  · obtain ⟨q, r, va, oa, ak, S, ts, mo, xs, H0, s0, pl, off, hv, z, hh, row, st, cs, pp, rfl, ok, A, hva, hoa, ol, hpl, hak, hm, few, hC, ⟨hf1, hf2⟩, k1, k2⟩ := h
    obtain ⟨f__first_least, fd__first_least, m__first_least, k__first_least, b__first_least, G__first_least⟩ := ok__first_least (P := P) (w := w) (base := base) T
    have hr__first_least : Room 2 _ := hr.mono (by decide)
    obtain ⟨f__offset_costs, fd__offset_costs, m__offset_costs, k__offset_costs, b__offset_costs, G__offset_costs⟩ := ok__offset_costs (P := P) (w := w) (base := base) T
    have hr__offset_costs : Room 6 _ := hr.mono (by decide)
    obtain ⟨f_prices, fd_prices, M_prices, b_prices, G_prices⟩ := ok_System_prices (P := P) (w := w) (base := base) T
    have hr_prices : Room 3 _ := hr.mono (by decide)
    obtain ⟨f__costs, fd__costs, m__costs, k__costs, b__costs, G__costs⟩ := ok__costs (P := P) (w := w) (base := base) T
    have hr__costs : Room 4 _ := hr.mono (by decide)
    obtain ⟨f__trusting, fd__trusting, m__trusting, k__trusting, b__trusting, G__trusting⟩ := ok__trusting (P := P) (w := w) (base := base) T
    have hr__trusting : Room 5 _ := hr.mono (by decide)
    obtain ⟨dx, p, ta, ds, hq, SA', hT, hne⟩ := id A.ex
    have SA := SA'.same A.same
    obtain ⟨dxp, mv, na, wv, q', kvs, hp, _⟩ := id SA.ex
    have n1 := ok.n1
    have n6 := ok.n6
    have cl := hC.len
    have pr := (ok.pr _ hm).1
    have prl : (row.length : Int) = S.n := pr.len
    refine ⟨_, (pss_cons (ps_asg (pv 3) (pg_tup rfl (pgs_cons (pg_name (i := 4) sc_chosen_post.nd rfl (Or.inl rfl)) (pgs_cons (pg_name (i := 5) sc_chosen_post.nd rfl (Or.inl rfl)) pgs_nil))))
      (pss_cons (ps_set (i := 6) sc_chosen_post.nd rfl (Or.inl rfl) (pe_ix ix_tup (pv 2) pe_int (fun _ _ => rfl)))
      (pss_cons (ps_if (pt_cmpR op_eq (pv 1) pe_str (nomark _))
      (pss_one (ps_ret (pe_call G__first_least hr__first_least rfl m__first_least k__first_least b__first_least .nil pass0 (pa_cons (pe_call G__offset_costs hr__offset_costs rfl m__offset_costs k__offset_costs b__offset_costs .nil pass0 (pa_cons (pv 0) (pa_cons (pv 2) (pa_cons (pv 4) pa_nil)))) pa_nil))))
      pss_nil)
      (pss_cons (ps_if (PW.pt (pw_and (pt_cmpR op_eq (pv 1) pe_str (nomark _)) (pw_and1 (pt_cmpR op_eq (pe_ix ix_tup (pe_meth (pe_fld (pv 0) rfl) T.cl_System M_prices G_prices hr_prices b_prices .nil passL (pa_cons (pv 4) pa_nil)) (pv 6) (fun _ _ => rfl)) pe_int (nomark _)))))
      (pss_one (ps_ret (pv 6)))
      pss_nil)
      (pss_cons (ps_set (i := 7) sc_chosen_post.nd rfl (Or.inl rfl) (pe_call G__costs hr__costs rfl m__costs k__costs b__costs .nil pass0 (pa_cons (pe_fld (pv 0) rfl) (pa_cons (pv 6) (pa_cons (pv 4) pa_nil)))))
      (pss_cons (ps_if (pt_cmpR op_eq (pv 1) pe_str (nomark _))
      (pss_one (ps_set (i := 7) sc_chosen_post.nd rfl (Or.inl rfl) (pe_call G__trusting hr__trusting rfl m__trusting k__trusting b__trusting .nil pass0 (pa_cons (pe_fld (pv 0) rfl) (pa_cons (pv 7) (pa_cons (pv 5) pa_nil))))))
      pss_nil)
      (pss_one (ps_ret (pe_call G__first_least hr__first_least rfl m__first_least k__first_least b__first_least .nil pass0 (pa_cons (pv 7) pa_nil)))))))))), ?_⟩
    refine ⟨_, rfl, ak, _, rfl, SqT.of hak, rfl, _, _, rfl, _, _, rfl, rfl, ?_⟩
    refine ⟨_, rfl, va, _, 1, .int pl, rfl, rfl, SqT.of hva, rfl, ?_⟩
    refine ⟨_, rfl, rfl, _, rfl, ?_⟩
    rw [dec_str2]
    refine ite2 (fun g => ?_) (fun g => ?_)
    · have g : st = "offset" := of_decide_eq_true g
      have ec : cs = ocL S.n.toNat S.ws pl (newOff (rawL S.n.toNat S.ws (srv S.n.toNat off row))) row := by
        rcases hC with ⟨_, e⟩ | ⟨g2, _⟩ | ⟨g2, _⟩
        · exact e
        · exact absurd g g2
        · exact absurd g g2
      have nc : ¬ (st = "calm" ∧ row.getD pl none = some 0) := fun ⟨e, _⟩ => by rw [g] at e; exact absurd e (by decide +kernel)
      subst ec
      refine ⟨_, rfl, _, rfl, _, rfl, q, r, va, oa, S, ts, mo, xs, H0, s0, pl, off, hv, z, row, rfl, ok, A, hva, hoa, ol, hpl, hm, few, fun l G sG eG => ?_⟩
      exact ⟨l, _, pp, rfl, eG, by omega, hf1, hf2, fun G2 s2 => k2 nc G2 (sG.trans s2)⟩
    · have g : ¬ st = "offset" := fun e => g (decide_eq_true e)
      refine ⟨_, rfl, rfl, _, rfl, ?_⟩
      rw [dec_str2]
      refine ite2 (fun g2 => ?_) (fun g2 => ?_)
      · have g2 : st = "calm" := of_decide_eq_true g2
        refine ⟨_, rfl, q, T.c_Steps, dx, _, _, rfl, hq, T.cl_Steps, T.na_Steps_system, stf_system, ?_⟩
        refine ⟨p, dxp, _, rfl, hp, sfs_no (by decide +kernel) (by decide +kernel) (by decide +kernel) (by decide +kernel) (by decide +kernel), _, rfl, p, S, .str z, "str", rfl, ok, SA, .blt rfl, fun z' row' ez hm' pv hpv => ?_, fun hno => absurd (List.mem_map.mpr ⟨_, hm, rfl⟩) (hno z rfl)⟩
        injection ez with ez
        subst ez
        obtain rfl := mem_row ok hm hm'
        obtain ⟨pa, rfl, hpa⟩ := hpv
        have ro : (row.map vO)[pl]? = some (vO (row.getD pl none)) := by rw [List.getElem?_map, getDat none (by omega)]; rfl
        refine ⟨_, rfl, pa, _, (pl : Nat), _, rfl, rfl, SqT.of hpa, atI_nat ro, ?_⟩
        have e0 : decide (vO (row.getD pl none) = V.int 0) = decide (row.getD pl none = some 0) := by
          rw [Bool.eq_iff_iff, decide_eq_true_iff, decide_eq_true_iff]
          cases row.getD pl none with
          | none => exact ⟨(fun e => by cases e), (fun e => by cases e)⟩
          | some y => exact ⟨fun e => by injection e with e; rw [e], fun e => by injection e with e; rw [e]; rfl⟩
        have sc0 : scal (vO (row.getD pl none)) (V.int 0) = true := by cases row.getD pl none <;> rfl
        refine ⟨sc0, _, rfl, ?_⟩
        rw [e0]
        refine ite2 (fun g4 => ?_) (fun g4 => ?_)
        · exact ⟨_, rfl, k1 g2 (of_decide_eq_true g4) H A.same⟩
        · have nc : ¬ (st = "calm" ∧ row.getD pl none = some 0) := fun ⟨_, e⟩ => g4 (decide_eq_true e)
          refine ⟨_, rfl, q, T.c_Steps, dx, _, _, rfl, hq, T.cl_Steps, T.na_Steps_system, stf_system, _, rfl, _, rfl, p, S, pl, z, row, rfl, ok, SA, hpl, hm, fun l G sG eG => ?_⟩
          have sc := some_cL (ws := S.ws) (pl := pl) (n := S.n.toNat) (row := row) (by omega) pr.some
          refine ⟨_, rfl, rfl, _, rfl, ?_⟩
          rw [dec_str2]
          refine ite2 (fun g3 => ?_) (fun g3 => ?_)
          · have g3 : st = "trust" := of_decide_eq_true g3
            have hTr : TrOf S hh (cL S.n.toNat S.ws pl row) cs := by
              rcases hC with ⟨e, _⟩ | ⟨_, _, e⟩ | ⟨_, e, _⟩
              · exact absurd e g
              · exact e
              · exact absurd g3 e
            refine ⟨_, rfl, q, T.c_Steps, dx, _, _, rfl, sG _ _ hq, T.cl_Steps, T.na_Steps_system, stf_system, _, rfl, _, rfl, p, l, S, cL S.n.toNat S.ws pl row, cs, hh, rfl, ok, SA.same sG, eG, cL_len, hTr, fun l2 G2 s2 e2 => ?_⟩
            exact ⟨_, rfl, l2, _, pp, rfl, e2, by omega, hf1, hf2, fun G3 s3 => k2 nc G3 (A.same.trans (sG.trans (s2.trans s3)))⟩
          · have g3 : ¬ st = "trust" := fun e => g3 (decide_eq_true e)
            have ec : cs = cL S.n.toNat S.ws pl row := by
              rcases hC with ⟨e, _⟩ | ⟨_, e, _⟩ | ⟨_, _, e⟩
              · exact absurd e g
              · exact absurd e g3
              · exact e
            subst ec
            exact ⟨_, rfl, l, _, pp, rfl, eG, by omega, hf1, hf2, fun G3 s3 => k2 nc G3 (A.same.trans (sG.trans s3))⟩
      · have g2 : ¬ st = "calm" := fun e => g2 (decide_eq_true e)
        have nc : ¬ (st = "calm" ∧ row.getD pl none = some 0) := fun ⟨e, _⟩ => g2 e
        refine ⟨_, rfl, q, T.c_Steps, dx, _, _, rfl, hq, T.cl_Steps, T.na_Steps_system, stf_system, _, rfl, _, rfl, p, S, pl, z, row, rfl, ok, SA, hpl, hm, fun l G sG eG => ?_⟩
        have sc := some_cL (ws := S.ws) (pl := pl) (n := S.n.toNat) (row := row) (by omega) pr.some
        refine ⟨_, rfl, rfl, _, rfl, ?_⟩
        rw [dec_str2]
        refine ite2 (fun g3 => ?_) (fun g3 => ?_)
        · have g3 : st = "trust" := of_decide_eq_true g3
          have hTr : TrOf S hh (cL S.n.toNat S.ws pl row) cs := by
            rcases hC with ⟨e, _⟩ | ⟨_, _, e⟩ | ⟨_, e, _⟩
            · exact absurd e g
            · exact e
            · exact absurd g3 e
          refine ⟨_, rfl, q, T.c_Steps, dx, _, _, rfl, sG _ _ hq, T.cl_Steps, T.na_Steps_system, stf_system, _, rfl, _, rfl, p, l, S, cL S.n.toNat S.ws pl row, cs, hh, rfl, ok, SA.same sG, eG, cL_len, hTr, fun l2 G2 s2 e2 => ?_⟩
          exact ⟨_, rfl, l2, _, pp, rfl, e2, by omega, hf1, hf2, fun G3 s3 => k2 nc G3 (A.same.trans (sG.trans (s2.trans s3)))⟩
        · have g3 : ¬ st = "trust" := fun e => g3 (decide_eq_true e)
          have ec : cs = cL S.n.toNat S.ws pl row := by
            rcases hC with ⟨e, _⟩ | ⟨_, e, _⟩ | ⟨_, _, e⟩
            · exact absurd e g
            · exact absurd e g3
            · exact e
          subst ec
          exact ⟨_, rfl, l, _, pp, rfl, eG, by omega, hf1, hf2, fun G3 s3 => k2 nc G3 (A.same.trans (sG.trans s3))⟩
end
end Toy

namespace Toy
open PySem PySem.Spec PyProof.Rows L2
local macro_rules | `(tactic| walk_at "hp") => `(tactic| first
  | assumption
  | exact upd_same
  | (refine Eq.trans (upd_ne (by first | assumption | (apply Ne.symm; assumption))) ?_; walk_at "hp"))
local macro_rules | `(tactic| walk_at "side") => `(tactic| first
  | exact .inl ⟨by omega, by omega⟩
  | exact .inr ⟨by omega, by omega⟩
  | exact ⟨by omega, by omega⟩
  | (show _ ≤ _; omega)
  | (show (_ : Int) < _; omega)
  | decide
  | assumption)
local macro_rules | `(tactic| walk_at "r") => `(tactic| first
  | refine ⟨_, rfl, ?_⟩
  | refine ⟨_, _, rfl, rfl, ?_⟩
  | refine ⟨_, _, _, _, rfl, rfl, SqL.of (by walk_at "hp"), rfl, ?_⟩
  | refine ⟨_, _, _, _, rfl, rfl, SqT.of (by walk_at "hp"), rfl, ?_⟩
  | refine ⟨_, _, _, _, rfl, rfl, (by walk_at "hp"), rfl, ?_⟩
  | refine And.intro rfl ?_
  | refine ⟨_, _, rfl, SqT.of (by walk_at "hp"), ?_⟩
  | refine ⟨_, _, rfl, SqL.of (by walk_at "hp"), ?_⟩
  | refine .inl ⟨_, rfl, ?_⟩
  | refine ⟨_, _, rfl, .inl (SqL.of (by walk_at "hp")), ?_⟩
  | refine ⟨_, _, rfl, .inr (SqT.of (by walk_at "hp")), ?_⟩
  | refine ⟨_, _, rfl, .inl ⟨SqL.of (by walk_at "hp"), ?_⟩⟩
  | refine And.intro (.inl ⟨rfl, _, SqL.of (by walk_at "hp")⟩) ?_
  | refine ⟨_, _, _, rfl, rfl, (by walk_at "hp"), ?_⟩
  | refine ⟨_, _, rfl, (by walk_at "hp"), ?_⟩
  | refine And.intro (by walk_at "side") ?_)
local macro_rules | `(tactic| walk_at "rr") => `(tactic| (repeat walk_at "r"))
local macro_rules | `(tactic| walk_at "k") => `(tactic| first
  | refine ite2 (fun _ => ?_) (fun g => absurd rfl g)
  | refine ite2 (fun g => absurd g (by decide)) (fun _ => ?_)
  | refine ite2 (fun _ => ?_) (fun g => absurd (decide_eq_true (by omega)) g)
  | refine ite2 (fun g => absurd (of_decide_eq_true g) (by omega)) (fun _ => ?_)
  | refine ite2 (fun g => (nd_t g (by omega)).elim) (fun _ => ?_)
  | refine ite2 (fun _ => ?_) (fun g => absurd (nd_f g) (by omega)))
local macro_rules | `(tactic| walk_at "rk") => `(tactic| (repeat (first | walk_at "r" | walk_at "k")))
theorem IsAsk.back {A0 : Addr → Prop} {H G : Hp} {x : V} {p : Str × V} (h : IsAsk G x p) (D : Dat A0 H x) (k : Same H G) : IsAsk H x p := by
  obtain ⟨a, rfl, e⟩ := h
  refine ⟨a, rfl, ?_⟩
  cases D with
  | lst _ _ _ q _ => rw [k _ _ q] at e; cases e
  | tup _ _ _ q _ => rw [k _ _ q] at e; rw [q, ← e]
  | dK _ _ _ q _ => rw [k _ _ q] at e; cases e
theorem IsAsk.same {H G : Hp} {x : V} {p : Str × V} (h : IsAsk H x p) (k : Same H G) : IsAsk G x p := by
  obtain ⟨a, e, q⟩ := h
  exact ⟨a, e, k _ _ q⟩
theorem SysAt.less {C p r : Addr} {G : Hp} {S : Sys} (A : SysAt C G p S) (h1 : 0 < S.rs.length) (hr : G r = some (.dK [])) : SysAt C (fun b => if b = r then none else G b) p S := by
  obtain ⟨dx, mv, na, wv, q, kvs, e1, e2, e3, e4, e5, e6⟩ := A.ex
  have keep : ∀ {b o}, G b = some o → o ≠ .dK [] → (if b = r then none else G b) = some o := fun {b o} e ne => by
    rw [if_neg fun z => by subst z; rw [hr] at e; cases e; exact ne rfl]
    exact e
  have tups : ∀ a ys, G a = some (.tup ys) → (if a = r then none else G a) = some (.tup ys) := fun a ys e => keep e (by intro z; cases z)
  refine ⟨dx, mv, na, wv, q, kvs, keep e1 (by intro z; cases z), TupT.firm IntT.firm _ _ _ _ tups e2, tups _ _ e3, TupT.firm IntT.firm _ _ _ _ tups e4, keep e5 fun z => ?_, e6.firm OptT.firm tups⟩
  injection z with z
  have := dct_len e6
  rw [z] at this
  simp at this
  omega
def styles : List Str := ["near", "calm", "trust", "offset"]
def spCheckStyle (CS CM : Addr) : Sp := fun vs H Q _ => ∃ (p m : Addr) (S : Sys) (M : Mc) (mo st : Str), vs = [.ref p, .ref m, .str mo, .str st] ∧ SysAt CS H p S ∧ McAt CM H m M ∧ (∀ z ∈ M.ns, z ∈ S.rs.map (·.1)) ∧ mo ∈ modes ∧ st ∈ styles ∧ Q .non H
def spStylePost (CS CM : Addr) : Sp := fun vs H Q _ => ∃ (p m va oa ak : Addr) (S : Sys) (M : Mc) (mo st : Str) (s : Int) (pl : Nat) (off : List Int) (hv : V) (z : Str) (hh : V) (row : List (Option Int)) (cs : List (Option Int)) (pp : Nat), vs = [.ref p, .ref m, .str mo, .str st, .ref va, .ref ak] ∧ SysOk S ∧ SysAt CS H p S ∧ McAt CM H m M ∧ McOk M ∧ (∀ z ∈ M.ns, z ∈ S.rs.map (·.1)) ∧ mo ∈ modes ∧ st ∈ styles ∧
  H va = some (.tup [.int s, .int pl, .ref oa, hv]) ∧ H oa = some (.tup (off.map V.int)) ∧ OffOk S.n.toNat S.ws off ∧ 0 ≤ s ∧ s < M.ts.length ∧ (pl : Int) < S.n ∧ Flat1 hv ∧ hintB mo (M.ts.getD s.toNat []) hv = true ∧ H ak = some (.tup [.str z, hh]) ∧ (z, hh) ∈ asksOf mo M.ts s hv ∧ (z, row) ∈ S.rs ∧ CsOf S pl off row hh st cs ∧ IsFst cs pp ∧
  (st = "calm" → row.getD pl none = some 0 → ∀ G, Same H G → Q (.int pl) G) ∧ (¬ (st = "calm" ∧ row.getD pl none = some 0) → ∀ G, Same H G → Q (.int pp) G)
section
variable {P : Program} {w : World} {K : PySem.W.Frag} {mg : Str → Option Value} {base : Heap}
theorem ok_check_style (T : Top K mg) : Ok P w K mg base 3 "check_style" ["system", "machine", "mode", "style"] (spCheckStyle T.c_System T.c_Machine) := by
  refine ok_of T.d_check_style sc_check_style (fun vs H Q E h => ?_) (fun f cdv A outer s H vs Q E hr h => ?_)
  · obtain ⟨p, m, S, M, mo, st, rfl, _⟩ := h
    rfl
  · obtain ⟨p, m, S, M, mo, st, rfl, SA, MA, sub, hmo, hst, k⟩ := h
    obtain ⟨f_check_mode, fd_check_mode, m_check_mode, k_check_mode, b_check_mode, G_check_mode⟩ := ok_check_mode (P := P) (w := w) (base := base) T
    have hr_check_mode : Room 2 _ := hr.mono (by decide)
    obtain ⟨f_is_known, fd_is_known, m_is_known, k_is_known, b_is_known, G_is_known⟩ := ok_is_known (P := P) (w := w) (base := base) T
    have hr_is_known : Room 1 _ := hr.mono (by decide)
    refine ⟨_, (pss_cons (ps_expr (pe_call G_check_mode hr_check_mode rfl m_check_mode k_check_mode b_check_mode .nil pass0 (pa_cons (pv 0) (pa_cons (pv 1) (pa_cons (pv 2) pa_nil)))))
      (pss_one (ps_if (pt_not (pt_val (pe_call G_is_known hr_is_known rfl m_is_known k_is_known b_is_known .nil pass0 (pa_cons (pv 3) (pa_cons (pe_glob (v := .ref T.c_STYLES) rfl T.mg_STYLES rfl) pa_nil)))))
      (pss_one (ps_never))
      pss_nil))), ?_⟩
    refine ⟨_, rfl, _, rfl, _, rfl, p, m, S, M, mo, rfl, SA, MA, sub, hmo, ?_⟩
    refine ⟨_, rfl, .str st, "str", T.c_STYLES, rfl, .blt rfl, .inr ⟨styles, T.tp_STYLES H, _, rfl, ?_⟩⟩
    refine ite2 (fun g => ?_) (fun _ => k)
    rw [show isOne styles (.str st) = true from decide_eq_true hst] at g
    cases g
theorem ok_style_post (T : Top K mg) : Ok P w K mg base 8 "style_post" ["system", "machine", "mode", "style", "view", "ask"] (spStylePost T.c_System T.c_Machine) := by
  refine ok_of T.d_style_post sc_style_post (fun vs H Q E h => ?_) (fun f cdv A outer s H vs Q E hr h => ?_)
  · obtain ⟨p, m, va, oa, ak, S, M, mo, st, s, pl, off, hv, z, hh, row, cs, pp, rfl, _⟩ := h
    rfl
  · obtain ⟨p, m, va, oa, ak, S, M, mo, st, s0, pl, off, hv, z, hh, row, cs, pp, rfl, ok, SA, MA, mok, sub, hmo, hst, hva, hoa, offok, t0, t1, hpl, fl, hB, hak, hask, hm, hC, hF, k1, k2⟩ := h
    obtain ⟨f_check_style, fd_check_style, m_check_style, k_check_style, b_check_style, G_check_style⟩ := ok_check_style (P := P) (w := w) (base := base) T
    have hr_check_style : Room 3 _ := hr.mono (by decide)
    obtain ⟨f_Steps, fd_Steps, m_Steps, M_Steps, b_Steps, G_Steps⟩ := ok_StepsZ_initZ (P := P) (w := w) (base := base) T
    have hr_Steps : Room 4 _ := hr.mono (by decide)
    obtain ⟨f_is_view, fd_is_view, M_is_view, b_is_view, G_is_view⟩ := ok_Steps_is_view (P := P) (w := w) (base := base) T
    have hr_is_view : Room 4 _ := hr.mono (by decide)
    obtain ⟨f_asks_at, fd_asks_at, M_asks_at, b_asks_at, G_asks_at⟩ := ok_Steps_asks_at (P := P) (w := w) (base := base) T
    have hr_asks_at : Room 2 _ := hr.mono (by decide)
    obtain ⟨f_chosen_post, fd_chosen_post, m_chosen_post, k_chosen_post, b_chosen_post, G_chosen_post⟩ := ok_chosen_post (P := P) (w := w) (base := base) T
    have hr_chosen_post : Room 7 _ := hr.mono (by decide)
    have hu64 := hr.units
    have thg : Thg2 K H (.ref va) := by
      refine Dat.thg2 (A := fun _ => True) (.tup va _ True.intro hva fun y m' => ?_)
      simp only [List.mem_cons, List.not_mem_nil, or_false] at m'
      rcases m' with rfl | rfl | rfl | rfl
      · exact .int _
      · exact .int _
      · refine .tup oa _ True.intro hoa fun y m' => ?_
        obtain ⟨i, _, rfl⟩ := List.mem_map.mp m'
        exact .int i
      · exact fl.dat
    have isv : IsView S.n S.ws M.ts mo H (.ref va) := ⟨va, s0, pl, .ref oa, hv, rfl, hva, t0, t1, by omega, hpl, ⟨off, ⟨oa, rfl, hoa⟩, offok⟩, hB⟩
    obtain ⟨a1, a2, a3⟩ := asks_ok mok.ts t0 t1 hB
    refine ⟨_, (pss_cons (ps_expr (pe_call G_check_style hr_check_style rfl m_check_style k_check_style b_check_style .nil pass0 (pa_cons (pv 0) (pa_cons (pv 1) (pa_cons (pv 2) (pa_cons (pv 3) pa_nil))))))
      (pss_cons (ps_set (i := 6) sc_style_post.nd rfl (Or.inl rfl) (pe_make M_Steps G_Steps hr_Steps rfl m_Steps b_Steps .nil pass0 (pa_cons (pv 0) (pa_cons (pv 1) (pa_cons (pv 2) pa_nil)))))
      (pss_cons (ps_if (pt_not (pt_val (pe_meth (pv 6) T.cl_Steps M_is_view G_is_view hr_is_view b_is_view .nil pass0 (pa_cons (pv 4) pa_nil))))
      (pss_one (ps_never))
      pss_nil)
      (pss_cons (ps_if (pt_cmpR (op_notInAsk hu64) (pv 5) (pe_meth (pv 6) T.cl_Steps M_asks_at G_asks_at hr_asks_at b_asks_at .nil pass0 (pa_cons (pv 4) pa_nil)) rfl)
      (pss_one (ps_never))
      pss_nil)
      (pss_one (ps_ret (pe_call G_chosen_post hr_chosen_post rfl m_chosen_post k_chosen_post b_chosen_post .nil pass0 (pa_cons (pv 6) (pa_cons (pv 3) (pa_cons (pv 4) (pa_cons (pv 5) pa_nil))))))))))), ?_⟩
    refine ⟨_, rfl, _, rfl, _, rfl, _, rfl, p, m, S, M, mo, st, rfl, SA, MA, sub, hmo, hst, ?_⟩
    refine ⟨_, rfl, _, rfl, _, rfl, fun x dx nx ndx nxx => ?_⟩
    refine ⟨x, dx, p, m, S, M, mo, H, rfl, upd_same, nx, same_upd (same_new ndx) nx, SA, MA, mok, fun G sG A fr => ⟨rfl, ?_⟩⟩
    obtain ⟨dx', p', ta, r, ds, hq, SA', hT, hr0⟩ := id A.ex
    refine ⟨_, rfl, x, dx', _, rfl, hq, stf_no (by decide +kernel) (by decide +kernel) (by decide +kernel) (by decide +kernel), _, rfl, x, S, M.ts, mo, .ref va, rfl, ok, A, thg.same sG, fun b G2 s2 hb => ⟨_, rfl, ?_⟩⟩
    have hb1 : b = true := hb.mpr (isv.same sG)
    subst hb1
    refine ite2 (fun g => nomatch g) (fun _ => ?_)
    have sG2 := sG.trans s2
    have A2 := A.same s2
    have hak2 := sG2 _ _ hak
    have hq2 := s2 _ _ hq
    have low : ∀ p ∈ asksOf mo M.ts s0 hv, p.2 = .non ∨ ∃ z, p.2 = .str z := fun p mp => (a3 p mp).2.imp id fun ⟨z, e, _⟩ => ⟨z, e⟩
    have dat : Dat (fun _ => True) G2 (.ref ak) := by
      refine .tup ak _ True.intro hak2 fun y m' => ?_
      simp only [List.mem_cons, List.not_mem_nil, or_false] at m'
      rcases m' with rfl | rfl
      · exact .str _
      · rcases low _ hask with e | ⟨z', e⟩
        · have e : y = .non := e
          rw [e]; exact .non
        · have e : y = .str z' := e
          rw [e]; exact .str _
    refine ⟨_, rfl, _, rfl, x, dx', _, rfl, hq2, stf_no (by decide +kernel) (by decide +kernel) (by decide +kernel) (by decide +kernel), _, rfl, x, va, M.ts, mo, s0, pl, .ref oa, hv, rfl, A2.q, mok.ts, sG2 _ _ hva, t0, t1, hB, fun l G3 s3 nl AL => ?_⟩
    have sG3 := sG2.trans s3
    have yes : ∃ p ∈ asksOf mo M.ts s0 hv, IsAsk G3 (.ref ak) p := ⟨(z, hh), hask, ak, rfl, s3 _ _ hak2⟩
    refine ⟨fun _ => True, l, _, rfl, dat.same s3, AL, low, _, rfl, ?_⟩
    refine ite2 (fun g => ?_) (fun _ => ?_)
    · simp [yes] at g
    have A3 := A2.same s3
    obtain ⟨dx3, p3, ta3, r3, ds3, hq3, SA3, hT3, hr3⟩ := id A3.ex
    have er : r3 = r := by
      have e1 := s3 _ _ hq2
      rw [hq3] at e1
      injection e1 with e1
      injection e1 with _ _ e1
      have e2 : (stf p3 mo ta3 r3).lookup ("_risen" : Str) = (stf p' mo ta r).lookup ("_risen" : Str) := congrArg (List.lookup ("_risen" : Str)) e1
      rw [stf_risen, stf_risen] at e2
      injection e2 with e2
      injection e2
    subst er
    have hHr : H r3 = none := fr _ _ _ _ hq
    have r1 := ok.r1
    have ne3 : ∀ d ∈ ds3, d ≠ r3 := fun d md q => by
      rw [q] at md
      obtain ⟨i, hi⟩ := List.getElem?_of_mem md
      obtain ⟨row', hrow', e⟩ := prd_at1 hT3.each hi
      rw [hr3] at e
      have := (mok.ts.row row' (List.mem_of_getElem? hrow')).1
      injection e with e
      injection e with e
      have e2 := congrArg List.length e
      rw [tkv_len] at e2
      simp at e2
      omega
    have s03 : Same (fun b => if b = r3 then none else G3 b) G3 := fun b o e => by
      have e : (if b = r3 then none else G3 b) = some o := e
      by_cases h : b = r3
      · rw [if_pos h] at e; cases e
      · rw [if_neg h] at e; exact e
    have SN : StN P w T.c_System T.c_Steps (fun b => if b = r3 then none else G3 b) G3 x r3 S M.ts mo [] :=
      ⟨⟨dx3, p3, ta3, ds3, hq3, SA3.less (by omega) hr3, hT3, ne3⟩, s03, if_pos rfl, .inl ⟨rfl, hr3⟩, ⟨by simp⟩, by simp⟩
    have back : ∀ G, Same (fun b => if b = r3 then none else G3 b) G → Same H G := fun G s b o e => by
      refine s b o ?_
      have nb : b ≠ r3 := fun q => by rw [q, hHr] at e; cases e
      show (if b = r3 then none else G3 b) = some o
      rw [if_neg nb]
      exact sG3 _ _ e
    refine ⟨_, rfl, _, rfl, _, rfl, _, rfl, x, r3, va, oa, ak, S, M.ts, mo, [], _, s0, pl, off, hv, z, hh, row, st, cs, pp, rfl, ok, SN, sG3 _ _ hva, sG3 _ _ hoa, offok.len, hpl, s3 _ _ hak2, hm, by decide, hC, hF, fun e1 e2 G s => k1 e1 e2 G (back G s), fun nc G s => k2 nc G (back G s)⟩
end
end Toy

namespace Toy
open PySem PySem.Spec PyProof.Rows L2
local macro_rules | `(tactic| walk_at "hp") => `(tactic| first
  | assumption
  | exact upd_same
  | (refine Eq.trans (upd_ne (by first | assumption | (apply Ne.symm; assumption))) ?_; walk_at "hp"))
local macro_rules | `(tactic| walk_at "side") => `(tactic| first
  | exact .inl ⟨by omega, by omega⟩
  | exact .inr ⟨by omega, by omega⟩
  | exact ⟨by omega, by omega⟩
  | (show _ ≤ _; omega)
  | (show (_ : Int) < _; omega)
  | decide
  | assumption)
local macro_rules | `(tactic| walk_at "r") => `(tactic| first
  | refine ⟨_, rfl, ?_⟩
  | refine ⟨_, _, rfl, rfl, ?_⟩
  | refine ⟨_, _, _, _, rfl, rfl, SqL.of (by walk_at "hp"), rfl, ?_⟩
  | refine ⟨_, _, _, _, rfl, rfl, SqT.of (by walk_at "hp"), rfl, ?_⟩
  | refine ⟨_, _, _, _, rfl, rfl, (by walk_at "hp"), rfl, ?_⟩
  | refine And.intro rfl ?_
  | refine ⟨_, _, rfl, SqT.of (by walk_at "hp"), ?_⟩
  | refine ⟨_, _, rfl, SqL.of (by walk_at "hp"), ?_⟩
  | refine .inl ⟨_, rfl, ?_⟩
  | refine ⟨_, _, rfl, .inl (SqL.of (by walk_at "hp")), ?_⟩
  | refine ⟨_, _, rfl, .inr (SqT.of (by walk_at "hp")), ?_⟩
  | refine ⟨_, _, rfl, .inl ⟨SqL.of (by walk_at "hp"), ?_⟩⟩
  | refine And.intro (.inl ⟨rfl, _, SqL.of (by walk_at "hp")⟩) ?_
  | refine ⟨_, _, _, rfl, rfl, (by walk_at "hp"), ?_⟩
  | refine ⟨_, _, rfl, (by walk_at "hp"), ?_⟩
  | refine And.intro (by walk_at "side") ?_)
local macro_rules | `(tactic| walk_at "rr") => `(tactic| (repeat walk_at "r"))
local macro_rules | `(tactic| walk_at "k") => `(tactic| first
  | refine ite2 (fun _ => ?_) (fun g => absurd rfl g)
  | refine ite2 (fun g => absurd g (by decide)) (fun _ => ?_)
  | refine ite2 (fun _ => ?_) (fun g => absurd (decide_eq_true (by omega)) g)
  | refine ite2 (fun g => absurd (of_decide_eq_true g) (by omega)) (fun _ => ?_)
  | refine ite2 (fun g => (nd_t g (by omega)).elim) (fun _ => ?_)
  | refine ite2 (fun _ => ?_) (fun g => absurd (nd_f g) (by omega)))
local macro_rules | `(tactic| walk_at "rk") => `(tactic| (repeat (first | walk_at "r" | walk_at "k")))
section
variable {P : Program} {w : World} {K : PySem.W.Frag} {mg : Str → Option Value} {base : Heap}
theorem ok__law_ways (T : Top K mg) : Ok P w K mg base 1 "_law_ways" ["moves"] spLawWays := by
  refine ok_of T.d__law_ways sc__law_ways (fun vs H Q E h => ?_) (fun f cdv A outer s H vs Q E hr h => ?_)
  · obtain ⟨v, rows, n, top, rfl, _⟩ := h
    rfl
  · obtain ⟨v, rows, n, top, rfl, ⟨a, vs, rfl, ha, hp⟩, S, h1, h6, k⟩ := h
    have hl : (vs.length : Int) = n := by rw [prd_len hp]; exact S.len
    refine ⟨_, (pss_cons (ps_setLc (i := 1) (own := [("row", 5)]) (g := gName 5) rfl sc__law_ways.nd rfl rfl (sw_true rfl rfl rfl (by decide +kernel)) (pi_tup (pv 0)) (blkOk_by (own := [("row", 5)]) (N := ["moves", "ways", "c", "a", "b", "row"]) (sc := defScope s__law_ways) (by decide +kernel)) (fun _ _ _ _ _ => (pg_name (i := 5) sc__law_ways.nd rfl (Or.inl rfl))) (fun _ _ _ _ _ => pts_nil) (fun _ _ _ _ _ => (pe_callTy (T := "list") (call_list_of : CallR _ _ (rListOf K)) (by rfl) T.b_list (by decide +kernel) (pa_cons (pv 5) pa_nil))))
      (pss_cons (ps_for PassesOwn.never rfl (pi_range1 (by rfl) T.b_range (pa_cons (pe_callB (id := "len") call_len_seq (by rfl) T.b_len (by decide +kernel) (pa_cons (pv 1) pa_nil)) pa_nil)) (pg_name (i := 2) sc__law_ways.nd rfl (Or.inl rfl))
      (pss_one (ps_for PassesOwn.never rfl (pi_range1 (by rfl) T.b_range (pa_cons (pe_callB (id := "len") call_len_seq (by rfl) T.b_len (by decide +kernel) (pa_cons (pv 1) pa_nil)) pa_nil)) (pg_name (i := 3) sc__law_ways.nd rfl (Or.inl rfl))
      (pss_one (ps_for PassesOwn.never rfl (pi_range1 (by rfl) T.b_range (pa_cons (pe_callB (id := "len") call_len_seq (by rfl) T.b_len (by decide +kernel) (pa_cons (pv 1) pa_nil)) pa_nil)) (pg_name (i := 4) sc__law_ways.nd rfl (Or.inl rfl))
      (pss_one (ps_asg (pe_callB (id := "min") (call_min2 rfl) (by rfl) T.b_min (by decide +kernel) (pa_cons (pe_ix ix_list (pe_ix ix_list (pv 1) (pv 3) (fun _ _ => rfl)) (pv 4) (fun _ _ => rfl)) (pa_cons (pe_op op_add (pe_ix ix_list (pe_ix ix_list (pv 1) (pv 3) (fun _ _ => rfl)) (pv 2) (fun _ _ => rfl)) (pe_ix ix_list (pe_ix ix_list (pv 1) (pv 2) (fun _ _ => rfl)) (pv 4) (fun _ _ => rfl))) pa_nil))) (pg_sub (pe_ix ix_list (pv 1) (pv 3) (fun _ _ => rfl)) (pv 4) set_list))))))))
      (pss_one (ps_ret (pv 1))))), ?_⟩
    walk_at "rr"
    refine ⟨⟨_, SqT.of ha⟩, ?_⟩
    intro L nL
    have nLa : a ≠ L := ne_of_none ha nL
    refine lc_tup (K := K) (a := a) (xs := vs) (fun i H2 => ∃ as : List Addr, H2 L = some (.lst (as.map V.ref)) ∧ as.length = i ∧ as.Nodup ∧ L ∉ as ∧ (∀ b ∈ as, H b = none) ∧ (∀ (j : Nat) b, as[j]? = some b → H2 b = some (.lst (rowV n.toNat (mat rows j)))) ∧ Same H H2)
      ⟨[], upd_same, rfl, .nil, by simp, by simp, by simp, same_new nL⟩ (fun i H2 _ ⟨_, _, _, _, _, _, _, q⟩ => SqT.of (q _ _ ha)) ?_ ?_
    · rintro i x H2 hi ⟨as, e1, e2, e3, e4, e5, e6, e7⟩
      obtain ⟨row, hrow, b, rfl, hb⟩ := prd_at1 hp hi
      have hb2 := e7 _ _ hb
      refine ⟨rfl, ?_⟩
      refine yesT ?_
      refine ⟨_, rfl, b, _, rfl, .inr (SqT.of hb2), fun t nt => ?_⟩
      have ntL : L ≠ t := ne_of_none e1 nt
      have ntH := e7.free nt
      have ntas : t ∉ as := fun m => by
        obtain ⟨j, hj⟩ := List.mem_iff_getElem?.mp m
        rw [e6 j t hj] at nt; cases nt
      refine ⟨_, (upd_ne ntL).trans e1, ?_, as ++ [t], ?_, ?_, ?_, ?_, ?_, ?_, ?_⟩
      · rw [List.length_map]; have := (List.getElem?_eq_some_iff.mp hi).1; exact small1000 (by omega)
      · rw [upd_same, List.map_append]; rfl
      · rw [List.length_append, e2]; rfl
      · exact nd_snoc e3 ntas
      · intro m
        rcases List.mem_append.mp m with q | q
        · exact e4 q
        · exact ntL (List.mem_singleton.mp q)
      · intro c hc
        rcases List.mem_append.mp hc with q | q
        · exact e5 c q
        · rw [List.mem_singleton.mp q]; exact ntH
      · intro j c hc
        by_cases hj : j < as.length
        · rw [List.getElem?_append_left hj] at hc
          have hcm := List.mem_of_getElem? hc
          have hcL : c ≠ L := fun q => e4 (q ▸ hcm)
          have hct : c ≠ t := fun q => ntas (q ▸ hcm)
          rw [upd_ne hcL, upd_ne hct]
          exact e6 j c hc
        · have hj2 : j = as.length := by
            have := (List.getElem?_eq_some_iff.mp hc).1
            rw [List.length_append] at this
            simp at this
            omega
          subst hj2
          rw [List.getElem?_append_right (Nat.le_refl _), Nat.sub_self] at hc
          obtain rfl := Option.some.inj (show some t = some c from hc)
          rw [upd_ne ntL.symm, upd_same]
          have hrm := S.row row (List.mem_of_getElem? hrow)
          rw [rowV_of (n := n.toNat) (by omega), e2]
          congr 2
          unfold rowV
          apply List.map_congr_left
          intro q _
          rw [mat_at hrow]
      · exact same_upd (same_upd e7 ntH) nL
    · rintro H2 ⟨as, e1, e2, e3, e4, e5, e6, e7⟩
      have ha2 := e7 _ _ ha
      have en : ((as.length : Int)).toNat = n.toNat := by omega
      have M0 : MatAt H2 L as n.toNat (mat rows) := ⟨e1, by omega, e3, e4, fun i b hb => e6 i b hb⟩
      have T0 : Tri n.toNat (mat rows) 0 := ⟨S.z, S.nn, fun i j k' _ _ hk => absurd hk (Nat.not_lt_zero _)⟩
      have asl : (as.length : Int) = n := by omega
      refine ⟨_, rfl, L, _, rfl, .inl (SqL.of e1), _, rfl, by rw [List.length_map]; omega, by rw [List.length_map]; omega, ?_⟩
      rw [List.length_map]
      refine for_range (lo := 0) (n := (as.length : Int).toNat) (fun m σ' H3 => ∃ (M : Nat → Nat → Int) (o2 o3 o4 : Option V), σ' = [some (.ref a), some (.ref L), o2, o3, o4, none] ∧ MatAt H3 L as n.toNat M ∧
          Tri n.toNat M m ∧ Snd n.toNat (mat rows) M ∧ (∀ i j, i < n.toNat → j < n.toNat → M i j ≤ mat rows i j) ∧ Same H H3)
        ⟨_, none, none, none, rfl, M0, T0, Snd.self, fun i j _ _ => Int.le_refl _, e7⟩ ?_ ?_
      · rintro m σ' H3 hm ⟨M, o2, o3, o4, rfl, hM, hT, hS, hle, s3⟩
        have hm' : m < n.toNat := by omega
        refine ⟨_, rfl, L, _, rfl, .inl (SqL.of hM.ws), _, rfl, by rw [List.length_map]; omega, by rw [List.length_map]; omega, ?_⟩
        rw [List.length_map]
        refine for_range (lo := 0) (n := (as.length : Int).toNat) (fun st σ' H4 => ∃ (o3 o4 : Option V), σ' = [some (.ref a), some (.ref L), some (.int (m : Nat)), o3, o4, none] ∧
            MatAt H4 L as n.toNat (fun i j => if i < st then ph M m i j else M i j) ∧ Same H H4)
          ⟨o3, o4, by simp, hM.ext fun i j _ _ => by simp, s3⟩ ?_ ?_
        · rintro st σ' H4 hst ⟨o3, o4, rfl, hM4, s4⟩
          have hst' : st < n.toNat := by omega
          refine ⟨_, rfl, L, _, rfl, .inl (SqL.of hM4.ws), _, rfl, by rw [List.length_map]; omega, by rw [List.length_map]; omega, ?_⟩
          rw [List.length_map]
          refine for_range (lo := 0) (n := (as.length : Int).toNat) (fun e σ' H5 => ∃ (o4 : Option V), σ' = [some (.ref a), some (.ref L), some (.int (m : Nat)), some (.int (st : Nat)), o4, none] ∧
              MatAt H5 L as n.toNat (fun i j => if i < st ∨ (i = st ∧ j < e) then ph M m i j else M i j) ∧ Same H H5)
            ⟨o4, by simp, hM4.ext fun i j _ _ => by simp, s4⟩ ?_ ?_
          · rintro e σ' H5 he ⟨o4, rfl, hM5, s5⟩
            have he' : e < n.toNat := by omega
            obtain ⟨as1, has1⟩ : ∃ b, as[st]? = some b := ⟨_, List.getElem?_eq_getElem (by rw [hM5.len]; omega)⟩
            obtain ⟨am1, ham1⟩ : ∃ b, as[m]? = some b := ⟨_, List.getElem?_eq_getElem (by rw [hM5.len]; omega)⟩
            have r1 := hM5.row st as1 has1
            have r2 := hM5.row m am1 ham1
            have hL5 := hM5.ws
            have p1 : ph M m st m = M st m := by
              have h0 := hT.z m hm'
              unfold ph; rw [h0]; split <;> omega
            have p2 : ph M m m e = M m e := by
              have h0 := hT.z m hm'
              unfold ph; rw [h0]; split <;> omega
            rw [Int.zero_add]
            refine ⟨_, rfl, _, rfl, L, _, (st : Nat), _, rfl, rfl, SqL.of hL5, atI_nat (by rw [List.getElem?_map, has1]; rfl), _, rfl, as1, _, (e : Nat), _, rfl, rfl, SqL.of r1, atI_nat (rowV_at he'), ?_⟩
            refine ⟨_, rfl, _, rfl, L, _, (st : Nat), _, rfl, rfl, SqL.of hL5, atI_nat (by rw [List.getElem?_map, has1]; rfl), _, rfl, as1, _, (m : Nat), _, rfl, rfl, SqL.of r1, atI_nat (rowV_at hm'), ?_⟩
            refine ⟨_, rfl, _, rfl, L, _, (m : Nat), _, rfl, rfl, SqL.of hL5, atI_nat (by rw [List.getElem?_map, ham1]; rfl), _, rfl, am1, _, (e : Nat), _, rfl, rfl, SqL.of r2, atI_nat (rowV_at he'), ?_⟩
            refine ⟨_, _, rfl, rfl, _, _, rfl, ?_⟩
            refine ⟨_, rfl, _, rfl, L, _, (st : Nat), _, rfl, rfl, SqL.of hL5, atI_nat (by rw [List.getElem?_map, has1]; rfl), _, rfl, as1, _, (e : Nat), e, rfl, rfl, r1, ?_, ?_⟩
            · unfold ixN
              rw [rowV_len, if_pos (by omega), if_pos (by omega)]
              rfl
            rw [rowV_set]
            refine ⟨_, rfl, (hM5.set has1).ext fun i j hi hj => ?_, same_upd s5 (e5 as1 (List.mem_of_getElem? has1))⟩
            have c1 : (if st < st ∨ st = st ∧ e < e then ph M m st e else M st e) = M st e := by simp
            have c2 : (if st < st ∨ st = st ∧ m < e then ph M m st m else M st m) = M st m := by rw [p1]; simp
            have c3 : (if m < st ∨ m = st ∧ e < e then ph M m m e else M m e) = M m e := by rw [p2]; simp
            rw [c1, c2, c3]
            by_cases hij : i = st ∧ j = e
            · obtain ⟨rfl, rfl⟩ := hij
              rw [if_pos ⟨rfl, rfl⟩, if_pos (c := i < i ∨ i = i ∧ j < j + 1) (.inr ⟨rfl, Nat.lt_succ_self _⟩)]
              rfl
            · rw [if_neg hij]
              by_cases hq : i < st ∨ (i = st ∧ j < e)
              · rw [if_pos hq, if_pos (by omega)]
              · rw [if_neg hq, if_neg (by omega)]
          · rintro σ' H5 ⟨o4, rfl, hM5, s5⟩
            refine ⟨_, _, rfl, hM5.ext fun i j hi hj => ?_, s5⟩
            by_cases hq : i < st ∨ (i = st ∧ j < (as.length : Int).toNat)
            · rw [if_pos hq, if_pos (by omega)]
            · rw [if_neg hq, if_neg (by omega)]
        · rintro σ' H4 ⟨o3, o4, rfl, hM4, s4⟩
          refine ⟨ph M m, _, _, _, rfl, hM4.ext fun i j hi hj => by rw [if_pos (by omega)], hT.ph hm', hS.ph hm', fun i j hi hj => ?_, s4⟩
          exact Int.le_trans (@ph_le M m i j).1 (hle i j hi hj)
      · rintro σ' H3 ⟨M, o2, o3, o4, rfl, hM, hT, hS, hle, s3⟩
        rw [en] at hT
        have hLst := Least.of hT hS hle
        walk_at "rr"
        exact k L M H3 s3 ⟨as, hM.ws, hM.len, fun i b hb => hM.row i b hb⟩ hLst
end
end Toy

namespace Toy
open PySem PySem.Spec PyProof.Rows L2
local macro_rules | `(tactic| walk_at "hp") => `(tactic| first
  | assumption
  | exact upd_same
  | (refine Eq.trans (upd_ne (by first | assumption | (apply Ne.symm; assumption))) ?_; walk_at "hp"))
local macro_rules | `(tactic| walk_at "side") => `(tactic| first
  | exact .inl ⟨by omega, by omega⟩
  | exact .inr ⟨by omega, by omega⟩
  | exact ⟨by omega, by omega⟩
  | (show _ ≤ _; omega)
  | (show (_ : Int) < _; omega)
  | decide
  | assumption)
local macro_rules | `(tactic| walk_at "r") => `(tactic| first
  | refine ⟨_, rfl, ?_⟩
  | refine ⟨_, _, rfl, rfl, ?_⟩
  | refine ⟨_, _, _, _, rfl, rfl, SqL.of (by walk_at "hp"), rfl, ?_⟩
  | refine ⟨_, _, _, _, rfl, rfl, SqT.of (by walk_at "hp"), rfl, ?_⟩
  | refine ⟨_, _, _, _, rfl, rfl, (by walk_at "hp"), rfl, ?_⟩
  | refine And.intro rfl ?_
  | refine ⟨_, _, rfl, SqT.of (by walk_at "hp"), ?_⟩
  | refine ⟨_, _, rfl, SqL.of (by walk_at "hp"), ?_⟩
  | refine .inl ⟨_, rfl, ?_⟩
  | refine ⟨_, _, rfl, .inl (SqL.of (by walk_at "hp")), ?_⟩
  | refine ⟨_, _, rfl, .inr (SqT.of (by walk_at "hp")), ?_⟩
  | refine ⟨_, _, rfl, .inl ⟨SqL.of (by walk_at "hp"), ?_⟩⟩
  | refine And.intro (.inl ⟨rfl, _, SqL.of (by walk_at "hp")⟩) ?_
  | refine ⟨_, _, _, rfl, rfl, (by walk_at "hp"), ?_⟩
  | refine ⟨_, _, rfl, (by walk_at "hp"), ?_⟩
  | refine And.intro (by walk_at "side") ?_)
local macro_rules | `(tactic| walk_at "rr") => `(tactic| (repeat walk_at "r"))
local macro_rules | `(tactic| walk_at "k") => `(tactic| first
  | refine ite2 (fun _ => ?_) (fun g => absurd rfl g)
  | refine ite2 (fun g => absurd g (by decide)) (fun _ => ?_)
  | refine ite2 (fun _ => ?_) (fun g => absurd (decide_eq_true (by omega)) g)
  | refine ite2 (fun g => absurd (of_decide_eq_true g) (by omega)) (fun _ => ?_)
  | refine ite2 (fun g => (nd_t g (by omega)).elim) (fun _ => ?_)
  | refine ite2 (fun _ => ?_) (fun g => absurd (nd_f g) (by omega)))
local macro_rules | `(tactic| walk_at "rk") => `(tactic| (repeat (first | walk_at "r" | walk_at "k")))
theorem srv_pos {off : List Int} {row : List (Option Int)} {n : Nat} (hl : row.length = n) (hs : ∃ x : Int, some x ∈ row) : srv n off row ≠ [] := by
  obtain ⟨x, m⟩ := hs
  obtain ⟨i, hi⟩ := List.getElem?_of_mem m
  intro e
  have : (off.getD i 0 + x, i) ∈ srv n off row := srv_mem.mpr ⟨i, x, by rw [← hl]; exact (List.getElem?_eq_some_iff.mp hi).1, by rw [List.getD_eq_getElem?_getD, hi]; rfl, rfl⟩
  rw [e] at this
  cases this
def spLawAfter : Sp := fun vs H Q _ => ∃ (L pa oa : Addr) (MM : Nat → Nat → Int) (n : Int) (ws : List (List Int)) (row : List (Option Int)) (off : List Int), vs = [.ref L, .ref pa, .ref oa] ∧ LM H L n.toNat MM ∧ (∀ i j, i < n.toNat → j < n.toNat → MM i j = mat ws i j) ∧ 1 ≤ n ∧ n ≤ 6 ∧ H pa = some (.tup (row.map vO)) ∧ row.length = n.toNat ∧ (∃ x : Int, some x ∈ row) ∧
  H oa = some (.tup (off.map V.int)) ∧ off.length = n.toNat ∧ ∀ t tv G, Same H G → G t = some (.tup [.ref tv, .int (minL (rawL n.toNat ws (srv n.toNat off row)))]) → G tv = some (.tup ((newOff (rawL n.toNat ws (srv n.toNat off row))).map V.int)) → Q (.ref t) G
section
variable {P : Program} {w : World} {K : PySem.W.Frag} {mg : Str → Option Value} {base : Heap}
theorem ok__law_after (T : Top K mg) : Ok P w K mg base 1 "_law_after" ["ways", "prices", "offsets"] spLawAfter := by
  refine ok_of T.d__law_after sc__law_after (fun vs H Q E h => ?_) (fun f cdv A outer s H vs Q E hr h => ?_)
  · obtain ⟨L, pa, oa, MM, n, ws, row, off, rfl, _⟩ := h
    rfl
  · obtain ⟨L, pa, oa, MM, n, ws, row, off, rfl, hM, hMw, n1, n6, hpa, rl, rs, hoa, ol, k⟩ := h
    obtain ⟨was, w1, w2, w3⟩ := hM.ex
    have hwn : ((was.map V.ref).length : Int).toNat = n.toNat := by rw [List.length_map]; omega
    have hsv := srv_pos (off := off) rl rs
    refine ⟨_, (pss_cons (ps_set (i := 3) sc__law_after.nd rfl (Or.inl rfl) (pe_lst pa_nil))
      (pss_cons (ps_for PassesOwn.never rfl (pi_range1 (by rfl) T.b_range (pa_cons (pe_callB (id := "len") call_len_seq (by rfl) T.b_len (by decide +kernel) (pa_cons (pv 0) pa_nil)) pa_nil)) (pg_name (i := 4) sc__law_after.nd rfl (Or.inr rfl))
      (pss_one (ps_expr (pe_bm PySem.F.plainAttrs_list PySem.F.slot_list_append PySem.F.type_list_append mt_append (pv 3) (pa_cons (pe_callB (id := "min") (cr_min rfl) (by rfl) T.b_min (by decide +kernel) (pa_cons (pe_lc (own := [("a", 6)]) (g := gName 6) rfl sc__law_after.nd (pi_range1 (by rfl) T.b_range (pa_cons (pe_callB (id := "len") call_len_seq (by rfl) T.b_len (by decide +kernel) (pa_cons (pv 0) pa_nil)) pa_nil)) (blkOk_by (own := [("a", 6)]) (N := ["ways", "prices", "offsets", "raw", "b", "rise", "a", "number"]) (sc := defScope s__law_after) (by decide +kernel)) (fun _ _ _ _ _ => (pg_name (i := 6) sc__law_after.nd rfl (Or.inl rfl))) (fun _ _ _ _ _ => (pts_one (pt_cmpR op_notN (pe_ix (ix_tup : IxR _ (rIxT K)) (pv 1) (pv 6) (fun _ _ => rfl)) pe_non (nomark _)))) (fun _ _ _ _ _ => (pe_op op_add (pe_op op_add (pe_ix (ix_tup : IxR _ (rIxT K)) (pv 2) (pv 6) (fun _ _ => rfl)) (pe_ix (ix_tup : IxR _ (rIxT K)) (pv 1) (pv 6) (fun _ _ => rfl))) (pe_ix (ix_list : IxR _ (rIxL K)) (pe_ix (ix_list : IxR _ (rIxL K)) (pv 0) (pv 6) (fun _ _ => rfl)) (pv 4) (fun _ _ => rfl))))) pa_nil)) pa_nil)))))
      (pss_cons (ps_set (i := 5) sc__law_after.nd rfl (Or.inr rfl) (pe_callB (id := "min") (cr_min rfl) (by rfl) T.b_min (by decide +kernel) (pa_cons (pv 3) pa_nil)))
      (pss_one (ps_ret (pe_tup (pa_cons (pe_callTy (T := "tuple") call_tuple_of (by rfl) T.b_tuple (by decide +kernel) (pa_cons (pe_lc (own := [("number", 7)]) (g := gName 7) rfl sc__law_after.nd (pi_list (pv 3)) (blkOk_by (own := [("number", 7)]) (N := ["ways", "prices", "offsets", "raw", "b", "rise", "a", "number"]) (sc := defScope s__law_after) (by decide +kernel)) (fun _ _ _ _ _ => (pg_name (i := 7) sc__law_after.nd rfl (Or.inl rfl))) (fun _ _ _ _ _ => pts_nil) (fun _ _ _ _ _ => (pe_op op_sub (pv 7) (pv 5)))) pa_nil)) (pa_cons (pv 5) pa_nil)))))))), ?_⟩
    refine ⟨(by show 0 ≤ sizeLine; decide), fun R nR => ?_⟩
    have sR : Same H (upd H R (.lst [])) := same_new nR
    refine ⟨_, rfl, L, _, rfl, .inl (SqL.of (sR _ _ w1)), _, rfl, by rw [List.length_map]; omega, by rw [List.length_map]; omega, ?_⟩
    refine for_range (lo := 0) (n := ((was.map V.ref).length : Int).toNat) (fun i σ' G => ∃ o4 : Option V, σ' = [some (.ref L), some (.ref pa), some (.ref oa), some (.ref R), o4, none, none, none] ∧ G R = some (.lst (((List.range i).map (rawAt ws (srv n.toNat off row))).map V.int)) ∧ Same H G) ⟨none, rfl, upd_same, sR⟩ ?_ ?_
    · rintro i σ' G hi ⟨o4, rfl, e1, s1⟩
      have hi' : i < n.toNat := by omega
      rw [Int.zero_add]
      refine ⟨_, rfl, .inl ⟨rfl, _, SqL.of e1⟩, _, rfl, L, _, rfl, .inl (SqL.of (s1 _ _ w1)), _, rfl, by rw [List.length_map]; omega, by rw [List.length_map]; omega, fun E nE => ?_⟩
      refine lc_range (lo := 0) (n := ((was.map V.ref).length : Int).toNat) (fun j G2 => G2 E = some (.lst (((srv j off row).map fun q => q.1 + mat ws q.2 i).map V.int)) ∧ Same G G2) ⟨upd_same, same_new nE⟩ ?_ ?_
      · rintro j G2 hj ⟨q1, q2⟩
        have hj' : j < n.toNat := by omega
        have s2 := s1.trans q2
        have r1 : (row.map vO)[j]? = some (vO (row.getD j none)) := by rw [List.getElem?_map, getDat none (by omega)]; rfl
        rw [Int.zero_add]
        refine ⟨rfl, ?_⟩
        refine ⟨_, rfl, _, rfl, pa, _, (j : Nat), _, rfl, rfl, SqT.of (s2 _ _ hpa), atI_nat r1, rfl, _, rfl, ?_⟩
        cases hc : row.getD j none with
        | none =>
          refine ite2 (fun g => absurd g (by decide)) (fun _ => ⟨?_, q2⟩)
          rw [srv_none hc]
          exact q1
        | some c =>
          refine ite2 (fun _ => ?_) (fun g => absurd (by rfl) g)
          obtain ⟨wa, hwa⟩ : ∃ b, was[j]? = some b := ⟨_, List.getElem?_eq_getElem (by omega)⟩
          have r2 : (off.map V.int)[j]? = some (.int (off.getD j 0)) := by rw [List.getElem?_map, getDat 0 (by omega)]; rfl
          have r3 : (row.map vO)[j]? = some (.int c) := by rw [r1, hc]; rfl
          have hmb : (rowV n.toNat (MM j))[i]? = some (.int (mat ws j i)) := by rw [rowV_at hi', hMw j i hj' hi']
          refine ⟨_, rfl, _, rfl, oa, _, (j : Nat), _, rfl, rfl, SqT.of (s2 _ _ hoa), atI_nat r2, _, rfl, _, rfl, pa, _, (j : Nat), _, rfl, rfl, SqT.of (s2 _ _ hpa), atI_nat r3, _, _, rfl, rfl, _, rfl, _, rfl, L, _, (j : Nat), .ref wa, rfl, rfl, SqL.of (s2 _ _ w1), atI_nat (by rw [List.getElem?_map, hwa]; rfl), _, rfl, wa, _, (i : Nat), _, rfl, rfl, SqL.of (s2 _ _ (w3 j wa hwa)), atI_nat hmb, _, _, rfl, rfl, ?_⟩
          refine ⟨_, q1, ?_, ?_, same_upd q2 nE⟩
          · rw [List.length_map, List.length_map]; exact small1000 (Nat.le_trans (srv_len _ _ _) (by omega))
          · rw [upd_same, srv_some hc, List.map_append, List.map_append]; rfl
      · rintro G2 ⟨q1, q2⟩
        rw [hwn] at q1
        refine ⟨E, _, rfl, SqL.of q1, (by rw [List.length_map]; exact List.length_pos_iff.mpr hsv), fun m hm hle => ?_⟩
        have em : rawAt ws (srv n.toNat off row) i = m := minL_eq hm hle
        refine ⟨R, _, _, rfl, rfl, q2 _ _ e1, ?_, _, rfl, ?_, same_upd (s1.trans q2) nR⟩
        · rw [List.length_map, List.length_map, List.length_range]; exact small1000 (by omega)
        · rw [upd_same, List.range_succ, List.map_append, List.map_append, ← em]; rfl
    · rintro σ' G ⟨o4, rfl, e1, s1⟩
      rw [hwn] at e1
      have e1 : G R = some (.lst ((rawL n.toNat ws (srv n.toNat off row)).map V.int)) := e1
      have hrl : (rawL n.toNat ws (srv n.toNat off row)).length = n.toNat := rawL_len
      generalize rawL n.toNat ws (srv n.toNat off row) = raw at e1 hrl k
      refine ⟨_, rfl, R, _, rfl, SqL.of e1, by omega, fun m hm hle => ?_⟩
      have em : minL raw = m := minL_eq hm hle
      subst em
      refine ⟨_, rfl, R, rfl, ⟨_, SqL.of e1⟩, fun D nD => ?_⟩
      refine lc_list (K := K) (a := R) (xs := raw.map V.int) (fun j G2 => G2 D = some (.lst (((raw.take j).map fun c => c - minL raw).map V.int)) ∧ Same G G2) ⟨upd_same, same_new nD⟩ (fun j G2 _ h2 => SqL.of (h2.2 _ _ e1)) ?_ ?_
      · rintro j x G2 hj ⟨q1, q2⟩
        obtain ⟨y, hy, rfl⟩ := map_at hj
        refine ⟨rfl, ?_⟩
        refine yesT ?_
        refine ⟨_, rfl, _, rfl, _, _, rfl, rfl, ?_⟩
        refine ⟨_, q1, ?_, ?_, same_upd q2 nD⟩
        · rw [List.length_map, List.length_map, List.length_take]; exact small1000 (Nat.le_trans (Nat.min_le_right _ _) (by omega))
        · rw [upd_same, List.take_add_one, hy, List.map_append, List.map_append]; rfl
      · rintro G2 ⟨q1, q2⟩
        rw [List.length_map, List.take_length] at q1
        refine ⟨D, _, rfl, .inl ⟨SqL.of q1, fun tv ntv => ?_⟩⟩
        refine ⟨_, rfl, (by show 2 ≤ sizeLine; decide), fun t nt => ?_⟩
        exact k t tv _ (s1.trans (q2.trans ((same_new ntv).trans (same_new nt)))) upd_same ((upd_ne (ne_of_none upd_same nt)).trans upd_same)
end
end Toy

namespace Toy
open PySem PySem.Spec PyProof.Rows L2
local macro_rules | `(tactic| walk_at "hp") => `(tactic| first
  | assumption
  | exact upd_same
  | (refine Eq.trans (upd_ne (by first | assumption | (apply Ne.symm; assumption))) ?_; walk_at "hp"))
local macro_rules | `(tactic| walk_at "side") => `(tactic| first
  | exact .inl ⟨by omega, by omega⟩
  | exact .inr ⟨by omega, by omega⟩
  | exact ⟨by omega, by omega⟩
  | (show _ ≤ _; omega)
  | (show (_ : Int) < _; omega)
  | decide
  | assumption)
local macro_rules | `(tactic| walk_at "r") => `(tactic| first
  | refine ⟨_, rfl, ?_⟩
  | refine ⟨_, _, rfl, rfl, ?_⟩
  | refine ⟨_, _, _, _, rfl, rfl, SqL.of (by walk_at "hp"), rfl, ?_⟩
  | refine ⟨_, _, _, _, rfl, rfl, SqT.of (by walk_at "hp"), rfl, ?_⟩
  | refine ⟨_, _, _, _, rfl, rfl, (by walk_at "hp"), rfl, ?_⟩
  | refine And.intro rfl ?_
  | refine ⟨_, _, rfl, SqT.of (by walk_at "hp"), ?_⟩
  | refine ⟨_, _, rfl, SqL.of (by walk_at "hp"), ?_⟩
  | refine .inl ⟨_, rfl, ?_⟩
  | refine ⟨_, _, rfl, .inl (SqL.of (by walk_at "hp")), ?_⟩
  | refine ⟨_, _, rfl, .inr (SqT.of (by walk_at "hp")), ?_⟩
  | refine ⟨_, _, rfl, .inl ⟨SqL.of (by walk_at "hp"), ?_⟩⟩
  | refine And.intro (.inl ⟨rfl, _, SqL.of (by walk_at "hp")⟩) ?_
  | refine ⟨_, _, _, rfl, rfl, (by walk_at "hp"), ?_⟩
  | refine ⟨_, _, rfl, (by walk_at "hp"), ?_⟩
  | refine And.intro (by walk_at "side") ?_)
local macro_rules | `(tactic| walk_at "rr") => `(tactic| (repeat walk_at "r"))
local macro_rules | `(tactic| walk_at "k") => `(tactic| first
  | refine ite2 (fun _ => ?_) (fun g => absurd rfl g)
  | refine ite2 (fun g => absurd g (by decide)) (fun _ => ?_)
  | refine ite2 (fun _ => ?_) (fun g => absurd (decide_eq_true (by omega)) g)
  | refine ite2 (fun g => absurd (of_decide_eq_true g) (by omega)) (fun _ => ?_)
  | refine ite2 (fun g => (nd_t g (by omega)).elim) (fun _ => ?_)
  | refine ite2 (fun _ => ?_) (fun g => absurd (nd_f g) (by omega)))
local macro_rules | `(tactic| walk_at "rk") => `(tactic| (repeat (first | walk_at "r" | walk_at "k")))
def srvP (row : List (Option Int)) : List Nat := (List.range row.length).filter fun b => (row.getD b none).isSome
def spServing : Sp := fun vs H Q _ => ∃ (a : Addr) (row : List (Option Int)), vs = [.ref a] ∧ H a = some (.tup (row.map vO)) ∧ row.length ≤ 6 ∧ ∀ l G, Same H G → G l = some (.lst (((srvP row).map fun b => ((b : Nat) : Int)).map V.int)) → Q (.ref l) G
def spCopies : Sp := fun vs H Q _ => ∃ (ta : Addr) (ds : List Addr) (ts : List (List (Str × Int))), vs = [.ref ta] ∧ TurnsAt H ta ds ts ∧ Turns ts ∧ ∀ t es G, Same H G → TurnsAt G t es ts → Q (.ref t) G
section
variable {P : Program} {w : World} {K : PySem.W.Frag} {mg : Str → Option Value} {base : Heap}
theorem ok__law_asks (T : Top K mg) : Ok P w K mg base 1 "_law_asks" ["turns", "mode", "view"] spLawAsks := by
  refine ok_of T.d__law_asks sc__law_asks (fun vs H Q E h => ?_) (fun f cdv A outer s H vs Q E hr h => ?_)
  · obtain ⟨ta, a, ds, ts, mo, s, p, ov, hv, rfl, _⟩ := h
    rfl
  · obtain ⟨ta, a, ds, ts, mo, s, p, ov, hv, rfl, hT, tok, ha, s0, s1, hB, k⟩ := h
    skip
    have hu := hu_of hr
    have hu64 := hr.units
    obtain ⟨d, hd, ed, hm⟩ := hT.row s0 s1
    obtain ⟨row1, row15, rnd, rok⟩ := tok.row _ hm
    unfold asksOf at k
    generalize hrow : ts.getD s.toNat [] = row at *
    have hvk : hv = .non ∨ ∃ z, hv = .str z ∧ z ∈ row.map (·.1) := by
      cases hv with
      | non => exact .inl rfl
      | str z => exact .inr ⟨z, rfl, of_decide_eq_true (Bool.and_eq_true_iff.mp (show (!decide (mo = "none") && decide (z ∈ row.map (·.1))) = true from hB)).2⟩
      | _ => exact absurd hB (by simp [hintB])
    refine ⟨_, (pss_cons (ps_set (i := 3) sc__law_asks.nd rfl (Or.inl rfl) (pe_lst pa_nil))
      (pss_cons (ps_set (i := 4) sc__law_asks.nd rfl (Or.inl rfl) (pe_ix ix_tup (pv 0) (pe_ix ix_tup (pv 2) pe_int (fun _ _ => rfl)) (fun _ _ => rfl)))
      (pss_cons (ps_for PassesOwn.never rfl (pi_list (pe_callB (id := "sorted") (call_sortedD rfl) (by rfl) T.b_sorted (by decide +kernel) (pa_cons (pv 4) pa_nil))) (pg_name (i := 5) sc__law_asks.nd rfl (Or.inl rfl))
      (pss_one (ps_if (PW.pt (pw_or (pt_cmpR op_ne (pv 1) pe_str (nomark _)) (pw_or (pt_cmpR op_isN (pe_ix ix_tup (pv 2) pe_int (fun _ _ => rfl)) pe_non (nomark _)) (pw_or1 (pt_cmpR (op_eqD hu64) (pe_ix ix_tup (pv 2) pe_int (fun _ _ => rfl)) (pv 5) (nomark _))))))
      (pss_one (ps_if (pt_cmpR op_eq (pv 1) pe_str (nomark _))
      (pss_one (ps_expr (pe_bm PySem.F.plainAttrs_list PySem.F.slot_list_append PySem.F.type_list_append mt_append (pv 3) (pa_cons (pe_tup (pa_cons (pv 5) (pa_cons pe_non pa_nil))) pa_nil))))
      (pss_one (ps_for PassesOwn.never rfl (pi_list (pe_callB (id := "sorted") (call_sortedD rfl) (by rfl) T.b_sorted (by decide +kernel) (pa_cons (pe_ix ix_tup (pv 0) (pe_dget hu (pv 4) (pv 5) (fun _ _ => rfl)) (fun _ _ => rfl)) pa_nil))) (pg_name (i := 6) sc__law_asks.nd rfl (Or.inl rfl))
      (pss_one (ps_expr (pe_bm PySem.F.plainAttrs_list PySem.F.slot_list_append PySem.F.type_list_append mt_append (pv 3) (pa_cons (pe_tup (pa_cons (pv 5) (pa_cons (pv 6) pa_nil))) pa_nil))))))))
      pss_nil)))
      (pss_one (ps_ret (pv 3)))))), ?_⟩
    refine ⟨(by show 0 ≤ sizeLine; decide), fun F nF => ?_⟩
    have sF : Same H (upd H F (.lst [])) := same_new nF
    have eF : (upd H F (.lst [])) F = some (.lst []) := upd_same
    generalize hHF : upd H F (.lst []) = HF at *
    refine ⟨_, rfl, _, rfl, a, _, 0, _, rfl, rfl, SqT.of (sF _ _ ha), rfl, ta, _, s, _, rfl, rfl, SqT.of (sF _ _ hT.tup), hd, ?_⟩
    refine ⟨_, rfl, d, _, row.map (·.1), rfl, .inl (sF _ _ ed), tkv_keys row, by rw [List.length_map]; omega, fun ys l1 hp hs nl1 => ?_⟩
    have eys := srtN_eq hp hs
    subst eys
    have s1' : Same HF (upd HF l1 (.lst ((srtN row).map V.str))) := same_new nl1
    have e1 : (upd HF l1 (.lst ((srtN row).map V.str))) l1 = some (.lst ((srtN row).map V.str)) := upd_same
    have l1F : l1 ≠ F := fun z => by subst z; rw [eF] at nl1; cases nl1
    have eF1 : (upd HF l1 (.lst ((srtN row).map V.str))) F = some (.lst []) := s1' _ _ eF
    have sH1 := sF.trans s1'
    generalize upd HF l1 (.lst ((srtN row).map V.str)) = H1 at *
    have nds : (srtN row).Nodup := hp.nodup_iff.mpr rnd
    have back : ∀ {G : Hp}, Keep F H1 G → Same H G := fun kG b o e => kG b o (fun z => by subst z; rw [nF] at e; cases e) (sH1 _ _ e)
    have hlen : ∀ z ∈ srtN row, (hintsOf mo (ts.getD (toOf row z).toNat [])).length ≤ 15 := fun z mz => by
      obtain ⟨_, pr, mpr, ep, ev⟩ := toOf_val rnd (hp.mem_iff.mp mz)
      obtain ⟨_, v0, v1⟩ := rok pr mpr
      rw [ev] at v0 v1
      obtain ⟨_, _, _, hm2⟩ := hT.row v0 v1
      exact Nat.le_trans (hintsOf_len (tok.row _ hm2).1) (tok.row _ hm2).2.1
    obtain ⟨lb, hlb⟩ : ∃ lb, letB mo hv = lb := ⟨_, rfl⟩
    refine ⟨l1, rfl, ⟨_, SqL.of e1⟩, ?_⟩
    refine for_list (K := K) (a := l1) (xs := (srtN row).map V.str) (fun n σ' G => ∃ o4 o5 : Option V, σ' = [some (.ref ta), some (.str mo), some (.ref a), some (.ref F), some (.ref d), o4, o5] ∧ AsksAt G F (asksFor mo ts row (((srtN row).take n).filter lb)) ∧ Keep F H1 G) ⟨none, none, rfl, ⟨[], eF1, .nil⟩, Keep.refl _ _⟩ (fun n σ' G _ ⟨_, _, _, _, kG⟩ => SqL.of (kG _ _ l1F e1)) ?_ ?_
    · rintro n x σ' G hj ⟨o4, o5, rfl, AF, kG⟩
      obtain ⟨z, hz, rfl⟩ := map_at hj
      have mz' := List.mem_of_getElem? hz
      have mz := hp.mem_iff.mp mz'
      have nl := (List.getElem?_eq_some_iff.mp hz).1
      have sG := back kG
      obtain ⟨tv, pr, mpr, ep, ev⟩ := toOf_val rnd mz
      obtain ⟨zN, v0, v1⟩ := rok pr mpr
      rw [ev] at v0 v1
      rw [ep] at zN
      obtain ⟨d2, hd2, ed2, hm2⟩ := hT.row v0 v1
      obtain ⟨q1, q15, qnd, qok⟩ := tok.row _ hm2
      have tot : (asksFor mo ts row (((srtN row).take n).filter lb)).length ≤ 15 * 15 := by
        refine Nat.le_trans (asksFor_len fun y m => hlen y (List.mem_of_mem_take (List.mem_filter.mp m).1)) ?_
        refine Nat.mul_le_mul_left 15 (Nat.le_trans (List.length_filter_le _ _) ?_)
        rw [List.length_take]
        exact Nat.le_trans (Nat.min_le_right _ _) (Nat.le_trans (srtN_len row) row15)
      have tk : ((srtN row).take (n + 1)).filter lb = ((srtN row).take n).filter lb ++ (if lb z = true then [z] else []) := by
        rw [List.take_add_one, hz, List.filter_append]
        cases hb : lb z <;> simp [List.filter, hb]
      have skip : ∀ {o5 : Option V}, lb z = false → ∃ o4 o5' : Option V, [some (V.ref ta), some (.str mo), some (.ref a), some (.ref F), some (.ref d), some (.str z), o5] = [some (V.ref ta), some (.str mo), some (.ref a), some (.ref F), some (.ref d), o4, o5'] ∧ AsksAt G F (asksFor mo ts row (((srtN row).take (n + 1)).filter lb)) ∧ Keep F H1 G := fun {o5} hb => by
        refine ⟨_, o5, rfl, ?_, kG⟩
        rw [tk, hb, if_neg (by decide), List.append_nil]
        exact AF
      have out : ∀ {G2 : Hp} {o5 : Option V}, lb z = true → AsksAt G2 F (asksFor mo ts row (((srtN row).take n).filter lb) ++ (hintsOf mo (ts.getD (toOf row z).toNat [])).map fun h => (z, h)) → Keep F H1 G2 →
          ∃ o4 o5' : Option V, [some (V.ref ta), some (.str mo), some (.ref a), some (.ref F), some (.ref d), some (.str z), o5] = [some (V.ref ta), some (.str mo), some (.ref a), some (.ref F), some (.ref d), o4, o5'] ∧ AsksAt G2 F (asksFor mo ts row (((srtN row).take (n + 1)).filter lb)) ∧ Keep F H1 G2 := fun {G2 o5} hb A2 k2 => by
        refine ⟨_, o5, rfl, ?_, k2⟩
        rw [tk, hb, if_pos rfl, asksFor_snoc]
        exact A2
      refine ⟨_, rfl, rfl, _, rfl, ?_⟩
      rw [dec_str]
      refine ite2 (fun g => ?_) (fun g => ?_)
      · have hb : lb z = true := by rw [← hlb]; unfold letB; rw [show (!decide (mo = "true")) = true from g]; rfl
        obtain ⟨us0, eF0, _⟩ := AF.ex
        refine ⟨_, rfl, rfl, _, rfl, ?_⟩
        rw [dec_str]
        refine ite2 (fun gn => ?_) (fun gn => ?_)
        · have gn := of_decide_eq_true gn
          have hh : hintsOf mo (ts.getD (toOf row z).toNat []) = [.non] := by unfold hintsOf; rw [if_pos gn]
          refine ⟨_, rfl, .inl ⟨rfl, _, SqL.of eF0⟩, _, rfl, (by show 2 ≤ sizeLine; decide), fun t nt => ?_⟩
          obtain ⟨us, eD, lenU, A4⟩ := AF.add nt (z, .non)
          refine ⟨F, us, _, rfl, rfl, eD, ?_, out hb ?_ ((kG.same (same_new nt)).trans Keep.upd)⟩
          · rw [lenU]; exact small1000 (by omega)
          · rw [hh]; exact A4
        · have gn : ¬ mo = "none" := fun z => gn (decide_eq_true z)
          have hh : hintsOf mo (ts.getD (toOf row z).toNat []) = (srtN (ts.getD (toOf row z).toNat [])).map V.str := by unfold hintsOf; rw [if_neg gn]
          refine ⟨_, rfl, _, rfl, _, rfl, d, .int (toOf row z), rfl, (by rw [← tv]; exact DGet.k (k := Sum.inr z) (sG _ _ ed)), ?_⟩
          refine ⟨ta, _, toOf row z, _, rfl, rfl, SqT.of (sG _ _ hT.tup), hd2, d2, _, (ts.getD (toOf row z).toNat []).map (·.1), rfl, .inl (sG _ _ ed2), tkv_keys _, by rw [List.length_map]; omega, fun ys2 l3 hp2 hs2 nl3 => ?_⟩
          have eys2 := srtN_eq hp2 hs2
          subst eys2
          have s3' : Same G (upd G l3 (.lst ((srtN (ts.getD (toOf row z).toNat [])).map V.str))) := same_new nl3
          have e3 : (upd G l3 (.lst ((srtN (ts.getD (toOf row z).toNat [])).map V.str))) l3 = some (.lst ((srtN (ts.getD (toOf row z).toNat [])).map V.str)) := upd_same
          have l3F : l3 ≠ F := fun z => by subst z; rw [eF0] at nl3; cases nl3
          have A3 := AF.same s3'
          generalize upd G l3 (.lst ((srtN (ts.getD (toOf row z).toNat [])).map V.str)) = G3 at *
          refine ⟨l3, rfl, ⟨_, SqL.of e3⟩, ?_⟩
          refine for_list (K := K) (a := l3) (xs := (srtN (ts.getD (toOf row z).toNat [])).map V.str) (fun j σ' G4 => ∃ o5 : Option V, σ' = [some (.ref ta), some (.str mo), some (.ref a), some (.ref F), some (.ref d), some (.str z), o5] ∧ AsksAt G4 F (asksFor mo ts row (((srtN row).take n).filter lb) ++ ((hintsOf mo (ts.getD (toOf row z).toNat [])).take j).map fun h => (z, h)) ∧ Keep F G3 G4) ⟨_, rfl, by simpa using A3, Keep.refl _ _⟩ (fun j σ' G4 _ ⟨_, _, _, k4⟩ => SqL.of (k4 _ _ l3F e3)) ?_ ?_
          · rintro j y σ' G4 hj2 ⟨o5, rfl, A4, k4⟩
            have hj3 : (hintsOf mo (ts.getD (toOf row z).toNat []))[j]? = some y := by rw [hh]; exact hj2
            have hjl := (List.getElem?_eq_some_iff.mp hj3).1
            have hl15 := hlen z mz'
            obtain ⟨us4, eF4, _⟩ := A4.ex
            refine ⟨_, rfl, .inl ⟨rfl, _, SqL.of eF4⟩, _, rfl, _, rfl, (by show 2 ≤ sizeLine; decide), fun t nt => ?_⟩
            obtain ⟨us, eD, lenU, A5⟩ := A4.add nt (z, y)
            refine ⟨F, us, _, rfl, rfl, eD, ?_, _, rfl, ?_, (k4.same (same_new nt)).trans Keep.upd⟩
            · rw [lenU, List.length_append, List.length_map, List.length_take]
              exact small1000 (by omega)
            · rw [List.take_add_one, hj3, List.map_append, ← List.append_assoc]
              exact A5
          · rintro σ' G4 ⟨o5, rfl, A4, k4⟩
            rw [← hh, List.take_length] at A4
            exact out hb A4 ((kG.same s3').trans k4)
      have g : decide (mo = "true") = true := by
        cases q : decide (mo = "true") with
        | true => rfl
        | false => exact absurd (show (!decide (mo = "true")) = true by rw [q]; rfl) g
      refine ⟨_, rfl, a, _, 3, hv, rfl, rfl, SqT.of (sG _ _ ha), rfl, rfl, _, rfl, ?_⟩
      refine ite2 (fun g2 => ?_) (fun g2 => ?_)
      · have hb : lb z = true := by rw [← hlb]; unfold letB; rw [show decide (hv = .non) = true from g2]; simp
        obtain ⟨us0, eF0, _⟩ := AF.ex
        refine ⟨_, rfl, rfl, _, rfl, ?_⟩
        rw [dec_str]
        refine ite2 (fun gn => ?_) (fun gn => ?_)
        · have gn := of_decide_eq_true gn
          have hh : hintsOf mo (ts.getD (toOf row z).toNat []) = [.non] := by unfold hintsOf; rw [if_pos gn]
          refine ⟨_, rfl, .inl ⟨rfl, _, SqL.of eF0⟩, _, rfl, (by show 2 ≤ sizeLine; decide), fun t nt => ?_⟩
          obtain ⟨us, eD, lenU, A4⟩ := AF.add nt (z, .non)
          refine ⟨F, us, _, rfl, rfl, eD, ?_, out hb ?_ ((kG.same (same_new nt)).trans Keep.upd)⟩
          · rw [lenU]; exact small1000 (by omega)
          · rw [hh]; exact A4
        · have gn : ¬ mo = "none" := fun z => gn (decide_eq_true z)
          have hh : hintsOf mo (ts.getD (toOf row z).toNat []) = (srtN (ts.getD (toOf row z).toNat [])).map V.str := by unfold hintsOf; rw [if_neg gn]
          refine ⟨_, rfl, _, rfl, _, rfl, d, .int (toOf row z), rfl, (by rw [← tv]; exact DGet.k (k := Sum.inr z) (sG _ _ ed)), ?_⟩
          refine ⟨ta, _, toOf row z, _, rfl, rfl, SqT.of (sG _ _ hT.tup), hd2, d2, _, (ts.getD (toOf row z).toNat []).map (·.1), rfl, .inl (sG _ _ ed2), tkv_keys _, by rw [List.length_map]; omega, fun ys2 l3 hp2 hs2 nl3 => ?_⟩
          have eys2 := srtN_eq hp2 hs2
          subst eys2
          have s3' : Same G (upd G l3 (.lst ((srtN (ts.getD (toOf row z).toNat [])).map V.str))) := same_new nl3
          have e3 : (upd G l3 (.lst ((srtN (ts.getD (toOf row z).toNat [])).map V.str))) l3 = some (.lst ((srtN (ts.getD (toOf row z).toNat [])).map V.str)) := upd_same
          have l3F : l3 ≠ F := fun z => by subst z; rw [eF0] at nl3; cases nl3
          have A3 := AF.same s3'
          generalize upd G l3 (.lst ((srtN (ts.getD (toOf row z).toNat [])).map V.str)) = G3 at *
          refine ⟨l3, rfl, ⟨_, SqL.of e3⟩, ?_⟩
          refine for_list (K := K) (a := l3) (xs := (srtN (ts.getD (toOf row z).toNat [])).map V.str) (fun j σ' G4 => ∃ o5 : Option V, σ' = [some (.ref ta), some (.str mo), some (.ref a), some (.ref F), some (.ref d), some (.str z), o5] ∧ AsksAt G4 F (asksFor mo ts row (((srtN row).take n).filter lb) ++ ((hintsOf mo (ts.getD (toOf row z).toNat [])).take j).map fun h => (z, h)) ∧ Keep F G3 G4) ⟨_, rfl, by simpa using A3, Keep.refl _ _⟩ (fun j σ' G4 _ ⟨_, _, _, k4⟩ => SqL.of (k4 _ _ l3F e3)) ?_ ?_
          · rintro j y σ' G4 hj2 ⟨o5, rfl, A4, k4⟩
            have hj3 : (hintsOf mo (ts.getD (toOf row z).toNat []))[j]? = some y := by rw [hh]; exact hj2
            have hjl := (List.getElem?_eq_some_iff.mp hj3).1
            have hl15 := hlen z mz'
            obtain ⟨us4, eF4, _⟩ := A4.ex
            refine ⟨_, rfl, .inl ⟨rfl, _, SqL.of eF4⟩, _, rfl, _, rfl, (by show 2 ≤ sizeLine; decide), fun t nt => ?_⟩
            obtain ⟨us, eD, lenU, A5⟩ := A4.add nt (z, y)
            refine ⟨F, us, _, rfl, rfl, eD, ?_, _, rfl, ?_, (k4.same (same_new nt)).trans Keep.upd⟩
            · rw [lenU, List.length_append, List.length_map, List.length_take]
              exact small1000 (by omega)
            · rw [List.take_add_one, hj3, List.map_append, ← List.append_assoc]
              exact A5
          · rintro σ' G4 ⟨o5, rfl, A4, k4⟩
            rw [← hh, List.take_length] at A4
            exact out hb A4 ((kG.same s3').trans k4)
      rcases hvk with e | ⟨z', e, mz2⟩
      · exact absurd (decide_eq_true e) g2
      subst e
      have zN' : Name 8 z' := by
        obtain ⟨_, pr, mpr, ep, _⟩ := toOf_val rnd mz2
        rw [← ep]; exact (rok pr mpr).1
      refine ⟨_, rfl, a, _, 3, _, rfl, rfl, SqT.of (sG _ _ ha), rfl, _, rfl, .str z', .str z, .str z', .str z, shaped_low zN'.low, shaped_low zN.low, _, rfl, ?_⟩
      rw [eqv_str]
      have e2 : lb z = decide (z' = z) := by
        rw [← hlb]
        unfold letB
        rw [g, dec_str]; rfl
      refine ite2 (fun g3 => ?_) (fun g3 => ?_)
      · have hb : lb z = true := by rw [e2]; exact g3
        obtain ⟨us0, eF0, _⟩ := AF.ex
        refine ⟨_, rfl, rfl, _, rfl, ?_⟩
        rw [dec_str]
        refine ite2 (fun gn => ?_) (fun gn => ?_)
        · have gn := of_decide_eq_true gn
          have hh : hintsOf mo (ts.getD (toOf row z).toNat []) = [.non] := by unfold hintsOf; rw [if_pos gn]
          refine ⟨_, rfl, .inl ⟨rfl, _, SqL.of eF0⟩, _, rfl, (by show 2 ≤ sizeLine; decide), fun t nt => ?_⟩
          obtain ⟨us, eD, lenU, A4⟩ := AF.add nt (z, .non)
          refine ⟨F, us, _, rfl, rfl, eD, ?_, out hb ?_ ((kG.same (same_new nt)).trans Keep.upd)⟩
          · rw [lenU]; exact small1000 (by omega)
          · rw [hh]; exact A4
        · have gn : ¬ mo = "none" := fun z => gn (decide_eq_true z)
          have hh : hintsOf mo (ts.getD (toOf row z).toNat []) = (srtN (ts.getD (toOf row z).toNat [])).map V.str := by unfold hintsOf; rw [if_neg gn]
          refine ⟨_, rfl, _, rfl, _, rfl, d, .int (toOf row z), rfl, (by rw [← tv]; exact DGet.k (k := Sum.inr z) (sG _ _ ed)), ?_⟩
          refine ⟨ta, _, toOf row z, _, rfl, rfl, SqT.of (sG _ _ hT.tup), hd2, d2, _, (ts.getD (toOf row z).toNat []).map (·.1), rfl, .inl (sG _ _ ed2), tkv_keys _, by rw [List.length_map]; omega, fun ys2 l3 hp2 hs2 nl3 => ?_⟩
          have eys2 := srtN_eq hp2 hs2
          subst eys2
          have s3' : Same G (upd G l3 (.lst ((srtN (ts.getD (toOf row z).toNat [])).map V.str))) := same_new nl3
          have e3 : (upd G l3 (.lst ((srtN (ts.getD (toOf row z).toNat [])).map V.str))) l3 = some (.lst ((srtN (ts.getD (toOf row z).toNat [])).map V.str)) := upd_same
          have l3F : l3 ≠ F := fun z => by subst z; rw [eF0] at nl3; cases nl3
          have A3 := AF.same s3'
          generalize upd G l3 (.lst ((srtN (ts.getD (toOf row z).toNat [])).map V.str)) = G3 at *
          refine ⟨l3, rfl, ⟨_, SqL.of e3⟩, ?_⟩
          refine for_list (K := K) (a := l3) (xs := (srtN (ts.getD (toOf row z).toNat [])).map V.str) (fun j σ' G4 => ∃ o5 : Option V, σ' = [some (.ref ta), some (.str mo), some (.ref a), some (.ref F), some (.ref d), some (.str z), o5] ∧ AsksAt G4 F (asksFor mo ts row (((srtN row).take n).filter lb) ++ ((hintsOf mo (ts.getD (toOf row z).toNat [])).take j).map fun h => (z, h)) ∧ Keep F G3 G4) ⟨_, rfl, by simpa using A3, Keep.refl _ _⟩ (fun j σ' G4 _ ⟨_, _, _, k4⟩ => SqL.of (k4 _ _ l3F e3)) ?_ ?_
          · rintro j y σ' G4 hj2 ⟨o5, rfl, A4, k4⟩
            have hj3 : (hintsOf mo (ts.getD (toOf row z).toNat []))[j]? = some y := by rw [hh]; exact hj2
            have hjl := (List.getElem?_eq_some_iff.mp hj3).1
            have hl15 := hlen z mz'
            obtain ⟨us4, eF4, _⟩ := A4.ex
            refine ⟨_, rfl, .inl ⟨rfl, _, SqL.of eF4⟩, _, rfl, _, rfl, (by show 2 ≤ sizeLine; decide), fun t nt => ?_⟩
            obtain ⟨us, eD, lenU, A5⟩ := A4.add nt (z, y)
            refine ⟨F, us, _, rfl, rfl, eD, ?_, _, rfl, ?_, (k4.same (same_new nt)).trans Keep.upd⟩
            · rw [lenU, List.length_append, List.length_map, List.length_take]
              exact small1000 (by omega)
            · rw [List.take_add_one, hj3, List.map_append, ← List.append_assoc]
              exact A5
          · rintro σ' G4 ⟨o5, rfl, A4, k4⟩
            rw [← hh, List.take_length] at A4
            exact out hb A4 ((kG.same s3').trans k4)
      · obtain ⟨x4, x5, ex, AX, kX⟩ := skip (o5 := o5) (by rw [e2]; exact Bool.eq_false_iff.mpr g3)
        exact ⟨x4, x5, ex, AX, kX⟩
    · rintro σ' G ⟨o4, o5, rfl, AF, kG⟩
      rw [List.length_map, List.take_length, ← hlb, let_reqs nds (hvk.imp id fun ⟨z, e, m⟩ => ⟨z, e, hp.mem_iff.mpr m⟩)] at AF
      exact ⟨_, rfl, k F G (back kG) nF AF⟩
theorem ok__law_serving (T : Top K mg) : Ok P w K mg base 1 "_law_serving" ["prices"] spServing := by
  refine ok_of T.d__law_serving sc__law_serving (fun vs H Q E h => ?_) (fun f cdv A outer s H vs Q E hr h => ?_)
  · obtain ⟨a, row, rfl, _⟩ := h
    rfl
  · obtain ⟨a, row, rfl, ha, l6, k⟩ := h
    skip
    refine ⟨_, (pss_one (ps_ret (pe_lc (own := [("post", 1)]) (g := gName 1) rfl sc__law_serving.nd (pi_range1 (by rfl) T.b_range (pa_cons (pe_callB (id := "len") call_len_seq (by rfl) T.b_len (by decide +kernel) (pa_cons (pv 0) pa_nil)) pa_nil)) (blkOk_by (own := [("post", 1)]) (N := ["prices", "post"]) (sc := defScope s__law_serving) (by decide +kernel)) (fun _ _ _ _ _ => (pg_name (i := 1) sc__law_serving.nd rfl (Or.inl rfl))) (fun _ _ _ _ _ => (pts_one (pt_cmpR op_notN (pe_ix (ix_tup : IxR _ (rIxT K)) (pv 0) (pv 1) (fun _ _ => rfl)) pe_non (nomark _)))) (fun _ _ _ _ _ => (pv 1))))), ?_⟩
    refine ⟨_, rfl, a, _, rfl, .inr (SqT.of ha), _, rfl, by rw [List.length_map]; omega, by rw [List.length_map]; omega, fun D nD => ?_⟩
    rw [List.length_map]
    refine lc_range (lo := 0) (n := (row.length : Int).toNat) (fun i G => G D = some (.lst ((((List.range i).filter fun b => (row.getD b none).isSome).map fun b => ((b : Nat) : Int)).map V.int)) ∧ Same H G) ⟨upd_same, same_new nD⟩ ?_ ?_
    · rintro i G hi ⟨e1, e2⟩
      have il : i < row.length := by omega
      obtain ⟨o, ho⟩ : ∃ o, row[i]? = some o := ⟨_, List.getElem?_eq_getElem il⟩
      have og : row.getD i none = o := by rw [List.getD_eq_getElem?_getD, ho]; rfl
      have ro : (row.map vO)[i]? = some (vO o) := by rw [List.getElem?_map, ho]; rfl
      rw [Int.zero_add]
      refine ⟨rfl, ?_⟩
      cases o with
      | none =>
        refine ⟨_, rfl, _, rfl, a, _, (i : Nat), _, rfl, rfl, SqT.of (e2 _ _ ha), atI_nat ro, rfl, _, rfl, ite2 (fun g => absurd g (by decide)) (fun _ => ⟨?_, e2⟩)⟩
        have f : [i].filter (fun b => (row.getD b none).isSome) = [] := by
          rw [List.filter_cons_of_neg (by rw [og]; decide)]; rfl
        rw [e1, List.range_succ, List.filter_append, f, List.append_nil]
      | some y =>
        refine ⟨_, rfl, _, rfl, a, _, (i : Nat), _, rfl, rfl, SqT.of (e2 _ _ ha), atI_nat ro, rfl, _, rfl, ite2 (fun _ => ?_) (fun g => absurd rfl g)⟩
        refine ⟨_, rfl, _, e1, ?_, ?_, same_upd e2 nD⟩
        · rw [List.length_map, List.length_map]
          exact small1000 (Nat.le_trans (List.length_filter_le _ _) (by rw [List.length_range]; omega))
        · have f : [i].filter (fun b => (row.getD b none).isSome) = [i] := by
            rw [List.filter_cons_of_pos (by rw [og]; rfl)]; rfl
          rw [upd_same, List.range_succ, List.filter_append, f, List.map_append, List.map_append]; rfl
    · rintro G ⟨e1, e2⟩
      exact k D G e2 e1
theorem ok__law_copies (T : Top K mg) : Ok P w K mg base 1 "_law_copies" ["turns"] spCopies := by
  refine ok_of T.d__law_copies sc__law_copies (fun vs H Q E h => ?_) (fun f cdv A outer s H vs Q E hr h => ?_)
  · obtain ⟨ta, ds, ts, rfl, _⟩ := h
    rfl
  · obtain ⟨ta, ds, ts, rfl, hT, tok, k⟩ := h
    skip
    refine ⟨_, (pss_one (ps_ret (pe_callTy (T := "tuple") call_tuple_of (by rfl) T.b_tuple (by decide +kernel) (pa_cons (pe_lc (own := [("row", 1)]) (g := gName 1) rfl sc__law_copies.nd (pi_tup (pv 0)) (blkOk_by (own := [("row", 1)]) (N := ["turns", "row"]) (sc := defScope s__law_copies) (by decide +kernel)) (fun _ _ _ _ _ => (pg_name (i := 1) sc__law_copies.nd rfl (Or.inl rfl))) (fun _ _ _ _ _ => pts_nil) (fun _ _ _ _ _ => (pe_callTy (T := "dict") call_dictD (by rfl) T.b_dict (by decide +kernel) (pa_cons (pv 1) pa_nil)))) pa_nil)))), ?_⟩
    have len : ds.length = ts.length := Paired.length hT.each
    have thi := tok.hi
    refine ⟨_, rfl, ta, rfl, ⟨_, SqT.of hT.tup⟩, fun EE nE => ?_⟩
    refine lc_tup (K := K) (a := ta) (xs := ds.map V.ref) (fun j G => ∃ es, Copied H G EE es (ts.take j)) ⟨[], upd_same, .nil, .nil, by simp, same_new nE⟩ (fun j G _ ⟨es, c⟩ => SqT.of (c.same _ _ hT.tup)) ?_ ?_
    · rintro j y G hj ⟨es, cc⟩
      obtain ⟨e, he, rfl⟩ := map_at hj
      obtain ⟨r, hr', ed⟩ := prd_at1 hT.each he
      refine ⟨rfl, ?_⟩
      refine yesT ?_
      refine ⟨_, rfl, e, tkv r, rfl, .inl (cc.same _ _ ed), fun e' ne' => ?_⟩
      have eD : EE ≠ e' := ne_of_none cc.lst ne'
      refine ⟨_, (upd_ne eD).trans cc.lst, ?_, _, cc.more hr' ne' nE⟩
      rw [List.length_map, Paired.length cc.each, List.length_take]
      exact small1000 (by omega)
    rintro G ⟨es, cc⟩
    rw [List.length_map, len, List.take_length] at cc
    refine ⟨EE, _, rfl, .inl ⟨SqL.of cc.lst, fun t nt => ?_⟩⟩
    have s1 : Same H (upd G t (.tup (es.map V.ref))) := same_upd cc.same (cc.same.free nt)
    exact k t es _ s1 ⟨upd_same, cc.nd, paired_snoc_at cc.each fun d _ o h => by rw [upd_ne (ne_of_none h nt)]; exact h⟩
end
end Toy

namespace Toy
open PySem PySem.Spec PyProof.Rows L2
local macro_rules | `(tactic| walk_at "hp") => `(tactic| first
  | assumption
  | exact upd_same
  | (refine Eq.trans (upd_ne (by first | assumption | (apply Ne.symm; assumption))) ?_; walk_at "hp"))
local macro_rules | `(tactic| walk_at "side") => `(tactic| first
  | exact .inl ⟨by omega, by omega⟩
  | exact .inr ⟨by omega, by omega⟩
  | exact ⟨by omega, by omega⟩
  | (show _ ≤ _; omega)
  | (show (_ : Int) < _; omega)
  | decide
  | assumption)
local macro_rules | `(tactic| walk_at "r") => `(tactic| first
  | refine ⟨_, rfl, ?_⟩
  | refine ⟨_, _, rfl, rfl, ?_⟩
  | refine ⟨_, _, _, _, rfl, rfl, SqL.of (by walk_at "hp"), rfl, ?_⟩
  | refine ⟨_, _, _, _, rfl, rfl, SqT.of (by walk_at "hp"), rfl, ?_⟩
  | refine ⟨_, _, _, _, rfl, rfl, (by walk_at "hp"), rfl, ?_⟩
  | refine And.intro rfl ?_
  | refine ⟨_, _, rfl, SqT.of (by walk_at "hp"), ?_⟩
  | refine ⟨_, _, rfl, SqL.of (by walk_at "hp"), ?_⟩
  | refine .inl ⟨_, rfl, ?_⟩
  | refine ⟨_, _, rfl, .inl (SqL.of (by walk_at "hp")), ?_⟩
  | refine ⟨_, _, rfl, .inr (SqT.of (by walk_at "hp")), ?_⟩
  | refine ⟨_, _, rfl, .inl ⟨SqL.of (by walk_at "hp"), ?_⟩⟩
  | refine And.intro (.inl ⟨rfl, _, SqL.of (by walk_at "hp")⟩) ?_
  | refine ⟨_, _, _, rfl, rfl, (by walk_at "hp"), ?_⟩
  | refine ⟨_, _, rfl, (by walk_at "hp"), ?_⟩
  | refine And.intro (by walk_at "side") ?_)
local macro_rules | `(tactic| walk_at "rr") => `(tactic| (repeat walk_at "r"))
local macro_rules | `(tactic| walk_at "k") => `(tactic| first
  | refine ite2 (fun _ => ?_) (fun g => absurd rfl g)
  | refine ite2 (fun g => absurd g (by decide)) (fun _ => ?_)
  | refine ite2 (fun _ => ?_) (fun g => absurd (decide_eq_true (by omega)) g)
  | refine ite2 (fun g => absurd (of_decide_eq_true g) (by omega)) (fun _ => ?_)
  | refine ite2 (fun g => (nd_t g (by omega)).elim) (fun _ => ?_)
  | refine ite2 (fun _ => ?_) (fun g => absurd (nd_f g) (by omega)))
local macro_rules | `(tactic| walk_at "rk") => `(tactic| (repeat (first | walk_at "r" | walk_at "k")))
theorem fm_map {r : Nat → Option Int} {g : Nat → Int → Int} : ∀ l : List Nat, (l.map fun b => (r b).map (g b)).filterMap id = (l.filter fun b => (r b).isSome).map fun b => g b ((r b).getD 0)
  | [] => rfl
  | b :: l => by
    have ih := fm_map (r := r) (g := g) l
    rw [List.map_cons]
    cases e : r b with
    | none =>
      rw [List.filter_cons_of_neg (by rw [e]; decide), ← ih]; rfl
    | some y =>
      rw [List.filter_cons_of_pos (by rw [e]; rfl), List.map_cons, ← ih, e]; rfl
theorem leastO_cL {n b : Nat} {ws : List (List Int)} {row : List (Option Int)} (h : row.length = n) : leastO (cL n ws b row) = minL ((srvP row).map fun x => mat ws b x + (row.getD x none).getD 0) := by
  unfold leastO cL srvP
  rw [fm_map, h]
/-- the law's world -/
structure WdAt (H : Hp) (wa : Addr) (S : Sys) (mo : Str) (q L ta : Addr) (kvs : List (Key × V)) (rs : List (Str × List (Option Int))) (M : Nat → Nat → Int) (ds : List Addr) (ts : List (List (Str × Int))) : Prop where
  tup : H wa = some (.tup [.ref L, .ref q, .ref ta, .str mo])
  lm : LM H L S.n.toNat M
  eq : ∀ i j, i < S.n.toNat → j < S.n.toNat → M i j = mat S.ws i j
  dct : H q = some (.dK kvs)
  of : DctOf OptT H kvs rs
  nd : (rs.map (·.1)).Nodup
  pm : S.rs.Perm rs
  trn : TurnsAt H ta ds ts
  tok : Turns ts
theorem WdAt.same {H G : Hp} {wa : Addr} {S : Sys} {mo : Str} {q L ta : Addr} {kvs : List (Key × V)} {rs : List (Str × List (Option Int))} {M : Nat → Nat → Int} {ds : List Addr} {ts : List (List (Str × Int))} (w : WdAt H wa S mo q L ta kvs rs M ds ts) (k : Same H G) : WdAt G wa S mo q L ta kvs rs M ds ts :=
  ⟨k _ _ w.tup, w.lm.same k, w.eq, k _ _ w.dct, w.of.firm OptT.firm (same_tups k), w.nd, w.pm, w.trn.same k, w.tok⟩
theorem WdAt.row {H : Hp} {wa : Addr} {S : Sys} {mo : Str} {q L ta : Addr} {kvs : List (Key × V)} {rs : List (Str × List (Option Int))} {M : Nat → Nat → Int} {ds : List Addr} {ts : List (List (Str × Int))} (w : WdAt H wa S mo q L ta kvs rs M ds ts) {z : Str} {row : List (Option Int)} (h : (z, row) ∈ S.rs) : ∃ pa, valV kvs (.inr z : Key) = some (.ref pa) ∧ H pa = some (.tup (row.map vO)) := by
  obtain ⟨v, hv, pa, rfl, hpa⟩ := dct_some w.of w.nd (w.pm.mem_iff.mp h)
  exact ⟨pa, hv, hpa⟩
def spLawNumber : Sp := fun vs H Q _ => ∃ (wa va oa ak : Addr) (S : Sys) (mo : Str) (q L ta : Addr) (kvs : List (Key × V)) (rs : List (Str × List (Option Int))) (M : Nat → Nat → Int) (ds : List Addr) (ts : List (List (Str × Int))) (st : Str) (s : Int) (pl : Nat) (off : List Int) (hv : V) (z : Str) (hh : V) (row cs : List (Option Int)) (b : Nat) (c : Int), vs = [.ref wa, .str st, .ref va, .ref ak, .int b] ∧ SysOk S ∧ WdAt H wa S mo q L ta kvs rs M ds ts ∧
  H va = some (.tup [.int s, .int pl, .ref oa, hv]) ∧ H oa = some (.tup (off.map V.int)) ∧ off.length = S.n.toNat ∧ (pl : Int) < S.n ∧ H ak = some (.tup [.str z, hh]) ∧ (z, row) ∈ S.rs ∧ CsOf S pl off row hh st cs ∧ (b : Int) < S.n ∧ cs.getD b none = some c ∧ ∀ G, Same H G → Q (.int c) G
section
variable {P : Program} {w : World} {K : PySem.W.Frag} {mg : Str → Option Value} {base : Heap}
theorem ok__law_number (T : Top K mg) : Ok P w K mg base 2 "_law_number" ["world", "style", "view", "ask", "post"] spLawNumber := by
  refine ok_of T.d__law_number sc__law_number (fun vs H Q E h => ?_) (fun f cdv A outer s H vs Q E hr h => ?_)
  · obtain ⟨wa, va, oa, ak, S, mo, q, L, ta, kvs, rs, M, ds, ts, st, s, pl, off, hv, z, hh, row, cs, b, c, rfl, _⟩ := h
    rfl
  · obtain ⟨wa, va, oa, ak, S, mo, q, L, ta, kvs, rs, M, ds, ts, st, s0, pl, off, hv, z, hh, row, cs, b, c, rfl, ok, W, hva, hoa, ol, hpl, hak, hm, hC, hb, hc, k⟩ := h
    obtain ⟨f__law_after, fd__law_after, m__law_after, k__law_after, b__law_after, G__law_after⟩ := ok__law_after (P := P) (w := w) (base := base) T
    have hr__law_after : Room 1 _ := hr.mono (by decide)
    obtain ⟨f__law_serving, fd__law_serving, m__law_serving, k__law_serving, b__law_serving, G__law_serving⟩ := ok__law_serving (P := P) (w := w) (base := base) T
    have hr__law_serving : Room 1 _ := hr.mono (by decide)
    have hu := hu_of hr
    have n1 := ok.n1
    have n6 := ok.n6
    have pr := (ok.pr _ hm).1
    have prl : (row.length : Int) = S.n := pr.len
    obtain ⟨was, w1, w2, w3⟩ := W.lm.ex
    obtain ⟨wp, hwp⟩ : ∃ a, was[pl]? = some a := ⟨_, List.getElem?_eq_getElem (by omega)⟩
    have hwr := w3 pl wp hwp
    have wat : (rowV S.n.toNat (M pl))[b]? = some (.int (mat S.ws pl b)) := by rw [rowV_at (by omega), W.eq pl b (by omega) (by omega)]
    have hLp : atI (was.map V.ref) ((pl : Nat) : Int) = some (.ref wp) := atI_nat (by rw [List.getElem?_map, hwp]; rfl)
    obtain ⟨pa, hval, hpa⟩ := W.row hm
    refine ⟨_, (pss_cons (ps_asg (pv 0) (pg_tup rfl (pgs_cons (pg_name (i := 5) sc__law_number.nd rfl (Or.inr rfl)) (pgs_cons (pg_name (i := 6) sc__law_number.nd rfl (Or.inl rfl)) (pgs_cons (pg_name (i := 7) sc__law_number.nd rfl (Or.inl rfl)) (pgs_cons (pg_name (i := 8) sc__law_number.nd rfl (Or.inl rfl)) pgs_nil))))))
      (pss_cons (ps_if (pt_cmpR op_eq (pv 1) pe_str (nomark _))
      (pss_one (ps_ret (pe_op op_add (pe_ix ix_list (pe_ix ix_list (pv 5) (pe_ix ix_tup (pv 2) pe_int (fun _ _ => rfl)) (fun _ _ => rfl)) (pv 4) (fun _ _ => rfl)) (pe_ix ix_tup (pe_ix ix_tup (pe_call G__law_after hr__law_after rfl m__law_after k__law_after b__law_after .nil pass0 (pa_cons (pv 5) (pa_cons (pe_dget hu (pv 6) (pe_ix ix_tup (pv 3) pe_int (fun _ _ => rfl)) (fun _ _ => rfl)) (pa_cons (pe_ix ix_tup (pv 2) pe_int (fun _ _ => rfl)) pa_nil)))) pe_int (fun _ _ => rfl)) (pv 4) (fun _ _ => rfl)))))
      pss_nil)
      (pss_cons (ps_set (i := 9) sc__law_number.nd rfl (Or.inl rfl) (pe_op op_add (pe_ix ix_list (pe_ix ix_list (pv 5) (pe_ix ix_tup (pv 2) pe_int (fun _ _ => rfl)) (fun _ _ => rfl)) (pv 4) (fun _ _ => rfl)) (pe_ix ix_tup (pe_dget hu (pv 6) (pe_ix ix_tup (pv 3) pe_int (fun _ _ => rfl)) (fun _ _ => rfl)) (pv 4) (fun _ _ => rfl))))
      (pss_cons (ps_if (PW.pt (pw_and (pt_cmpR op_eq (pv 1) pe_str (nomark _)) (pw_and1 (pt_cmpR op_notN (pe_ix ix_tup (pv 3) pe_int (fun _ _ => rfl)) pe_non (nomark _)))))
      (pss_cons (ps_set (i := 10) sc__law_number.nd rfl (Or.inr rfl) (pe_dget hu (pv 6) (pe_ix ix_tup (pv 3) pe_int (fun _ _ => rfl)) (fun _ _ => rfl)))
      (pss_one (ps_set (i := 9) sc__law_number.nd rfl (Or.inl rfl) (pe_op op_add (pv 9) (pe_callB (id := "min") (cr_min rfl) (by rfl) T.b_min (by decide +kernel) (pa_cons (pe_lc (own := [("b", 11)]) (g := gName 11) rfl sc__law_number.nd (pi_list (pe_call G__law_serving hr__law_serving rfl m__law_serving k__law_serving b__law_serving .nil pass0 (pa_cons (pv 10) pa_nil))) (blkOk_by (own := [("b", 11)]) (N := ["world", "style", "view", "ask", "post", "ways", "requests", "turns", "mode", "number", "later", "b"]) (sc := defScope s__law_number) (by decide +kernel)) (fun _ _ _ _ _ => (pg_name (i := 11) sc__law_number.nd rfl (Or.inl rfl))) (fun _ _ _ _ _ => pts_nil) (fun _ _ _ _ _ => (pe_op op_add (pe_ix (ix_list : IxR _ (rIxL K)) (pe_ix (ix_list : IxR _ (rIxL K)) (pv 5) (pv 4) (fun _ _ => rfl)) (pv 11) (fun _ _ => rfl)) (pe_ix (ix_tup : IxR _ (rIxT K)) (pv 10) (pv 11) (fun _ _ => rfl))))) pa_nil))))))
      pss_nil)
      (pss_one (ps_ret (pv 9))))))), ?_⟩
    refine ⟨_, rfl, wa, _, rfl, SqT.of W.tup, rfl, _, _, rfl, _, _, rfl, _, _, rfl, _, _, rfl, rfl, ?_⟩
    refine ⟨_, rfl, rfl, _, rfl, ?_⟩
    rw [dec_str2]
    refine ite2 (fun g => ?_) (fun g => ?_)
    · have g : st = "offset" := of_decide_eq_true g
      refine ⟨_, rfl, _, rfl, va, _, 1, .int pl, rfl, rfl, SqT.of hva, rfl, L, _, (pl : Nat), _, rfl, rfl, SqL.of w1, hLp, _, rfl, wp, _, (b : Nat), _, rfl, rfl, SqL.of hwr, atI_nat wat, ?_⟩
      have ec : cs = ocL S.n.toNat S.ws pl (newOff (rawL S.n.toNat S.ws (srv S.n.toNat off row))) row := by
        rcases hC with ⟨_, e⟩ | ⟨g2, _⟩ | ⟨g2, _⟩
        · exact e
        · exact absurd g g2
        · exact absurd g g2
      have nol : (newOff (rawL S.n.toNat S.ws (srv S.n.toNat off row))).length = S.n.toNat := by unfold newOff; rw [List.length_map, rawL_len]
      have ecc : c = mat S.ws pl b + (newOff (rawL S.n.toNat S.ws (srv S.n.toNat off row))).getD b 0 := by
        rw [ec, List.getD_eq_getElem?_getD, show (ocL S.n.toNat S.ws pl (newOff (rawL S.n.toNat S.ws (srv S.n.toNat off row))) row)[b]? = _ from rmap_at (f := fun b => (row.getD b none).map fun _ => mat S.ws pl b + (newOff (rawL S.n.toNat S.ws (srv S.n.toNat off row))).getD b 0) (by omega)] at hc
        cases e : row.getD b none with
        | none => rw [e] at hc; cases hc
        | some y => rw [e] at hc; exact (Option.some.inj hc).symm
      refine ⟨_, rfl, _, rfl, _, rfl, ak, _, 0, .str z, rfl, rfl, SqT.of hak, rfl, q, .ref pa, rfl, (by rw [← hval]; exact DGet.k (k := Sum.inr z) W.dct), ?_⟩
      refine ⟨_, rfl, va, _, 2, .ref oa, rfl, rfl, SqT.of hva, rfl, L, pa, oa, M, S.n, S.ws, row, off, rfl, W.lm, W.eq, n1, n6, hpa, by omega, pr.some, hoa, ol, fun t tv G s1 ht htv => ?_⟩
      have tb : ((newOff (rawL S.n.toNat S.ws (srv S.n.toNat off row))).map V.int)[b]? = some (.int ((newOff (rawL S.n.toNat S.ws (srv S.n.toNat off row))).getD b 0)) := by rw [List.getElem?_map, getDat 0 (by omega)]; rfl
      refine ⟨t, _, 0, .ref tv, rfl, rfl, SqT.of ht, rfl, _, rfl, tv, _, (b : Nat), _, rfl, rfl, SqT.of htv, atI_nat tb, _, _, rfl, rfl, ?_⟩
      have := k G s1
      rw [ecc] at this
      exact this
    · have g : ¬ st = "offset" := fun e => g (decide_eq_true e)
      have hcl : (cL S.n.toNat S.ws pl row).getD b none = (row.getD b none).map fun p => mat S.ws pl b + p := by
        rw [List.getD_eq_getElem?_getD, cL_at (by omega)]; rfl
      obtain ⟨y, hy⟩ : ∃ y, row.getD b none = some y := by
        cases e : row.getD b none with
        | some y => exact ⟨y, rfl⟩
        | none =>
          exfalso
          rcases hC with ⟨g2, _⟩ | ⟨_, _, (⟨_, rfl⟩ | ⟨_, _, _, _, rfl⟩)⟩ | ⟨_, _, rfl⟩
          · exact g g2
          · rw [hcl, e] at hc; cases hc
          · rw [List.getD_eq_getElem?_getD, show (tL S.n.toNat S.ws _ (cL S.n.toNat S.ws pl row))[b]? = _ from rmap_at (by omega)] at hc
            rw [show (cL S.n.toNat S.ws pl row).getD b none = none from by rw [hcl, e]; rfl] at hc
            cases hc
          · rw [hcl, e] at hc; cases hc
      have rb : (row.map vO)[b]? = some (.int y) := by
        have il : b < row.length := by omega
        rw [List.getElem?_map, getDat none il, hy]; rfl
      have hcl2 : (cL S.n.toNat S.ws pl row).getD b none = some (mat S.ws pl b + y) := by rw [hcl, hy]; rfl
      refine ⟨_, rfl, _, rfl, va, _, 1, .int pl, rfl, rfl, SqT.of hva, rfl, L, _, (pl : Nat), _, rfl, rfl, SqL.of w1, hLp, _, rfl, wp, _, (b : Nat), _, rfl, rfl, SqL.of hwr, atI_nat wat, ?_⟩
      refine ⟨_, rfl, _, rfl, ak, _, 0, .str z, rfl, rfl, SqT.of hak, rfl, q, .ref pa, rfl, (by rw [← hval]; exact DGet.k (k := Sum.inr z) W.dct), _, rfl, pa, _, (b : Nat), _, rfl, rfl, SqT.of hpa, atI_nat rb, _, _, rfl, rfl, ?_⟩
      refine ⟨_, rfl, rfl, _, rfl, ?_⟩
      rw [dec_str2]
      refine ite2 (fun g3 => ?_) (fun g3 => ?_)
      · have g3 : st = "trust" := of_decide_eq_true g3
        have hTr : TrOf S hh (cL S.n.toNat S.ws pl row) cs := by
          rcases hC with ⟨e, _⟩ | ⟨_, _, e⟩ | ⟨_, e, _⟩
          · exact absurd e g
          · exact e
          · exact absurd g3 e
        rcases hTr with ⟨rfl, rfl⟩ | ⟨z', later, rfl, hm2, rfl⟩
        · refine ⟨_, rfl, ak, _, 1, .non, rfl, rfl, SqT.of hak, rfl, rfl, _, rfl, ?_⟩
          refine ite2 (fun g4 => absurd g4 (by decide)) (fun _ => ?_)
          rw [hcl2] at hc
          have e := Option.some.inj hc
          have := k H (fun _ _ h => h)
          rw [← e] at this
          exact ⟨_, rfl, this⟩
        · obtain ⟨la, hval2, hla⟩ := W.row hm2
          have pr2 := (ok.pr _ hm2).1
          have prl2 : (later.length : Int) = S.n := pr2.len
          obtain ⟨wb, hwb⟩ : ∃ a, was[b]? = some a := ⟨_, List.getElem?_eq_getElem (by omega)⟩
          have hwbr := w3 b wb hwb
          have hLb : atI (was.map V.ref) ((b : Nat) : Int) = some (.ref wb) := atI_nat (by rw [List.getElem?_map, hwb]; rfl)
          rw [List.getD_eq_getElem?_getD, show (tL S.n.toNat S.ws later (cL S.n.toNat S.ws pl row))[b]? = _ from rmap_at (f := fun b => ((cL S.n.toNat S.ws pl row).getD b none).map fun c => c + leastO (cL S.n.toNat S.ws b later)) (by omega), hcl2] at hc
          have ec : mat S.ws pl b + y + leastO (cL S.n.toNat S.ws b later) = c := Option.some.inj hc
          refine ⟨_, rfl, ak, _, 1, .str z', rfl, rfl, SqT.of hak, rfl, rfl, _, rfl, ?_⟩
          refine ite2 (fun _ => ?_) (fun g4 => absurd rfl g4)
          refine ⟨_, rfl, _, rfl, ak, _, 1, .str z', rfl, rfl, SqT.of hak, rfl, q, .ref la, rfl, (by rw [← hval2]; exact DGet.k (k := Sum.inr z') W.dct), ?_⟩
          refine ⟨_, rfl, _, rfl, la, later, rfl, hla, by omega, fun l G sG eG => ?_⟩
          refine ⟨l, rfl, ⟨_, SqL.of eG⟩, fun D nD => ?_⟩
          have lsv : (srvP later).length ≤ 6 := by
            unfold srvP
            exact Nat.le_trans (List.length_filter_le _ _) (by rw [List.length_range]; omega)
          refine lc_list (K := K) (a := l) (xs := ((srvP later).map fun b => ((b : Nat) : Int)).map V.int) (fun i G2 => G2 D = some (.lst ((((srvP later).take i).map fun x => mat S.ws b x + (later.getD x none).getD 0).map V.int)) ∧ Same G G2) ⟨upd_same, same_new nD⟩ (fun i G2 _ h => SqL.of (h.2 _ _ eG)) ?_ ?_
          · rintro i x G2 hi ⟨f1, f2⟩
            rw [List.map_map] at hi
            obtain ⟨xx, hx, rfl⟩ := map_at hi
            have mx := List.mem_of_getElem? hx
            have il := (List.getElem?_eq_some_iff.mp hx).1
            obtain ⟨m1, m2⟩ := List.mem_filter.mp (show xx ∈ (List.range later.length).filter fun b => (later.getD b none).isSome from mx)
            have m1 := List.mem_range.mp m1
            obtain ⟨u, hu'⟩ := Option.isSome_iff_exists.mp m2
            have sG2 := sG.trans f2
            have wbx : (rowV S.n.toNat (M b))[xx]? = some (.int (mat S.ws b xx)) := by rw [rowV_at (by omega), W.eq b xx (by omega) (by omega)]
            have lx : (later.map vO)[xx]? = some (.int u) := by rw [List.getElem?_map, getDat none m1, hu']; rfl
            refine ⟨rfl, ?_⟩
            refine yesT ?_
            refine ⟨_, rfl, _, rfl, L, _, (b : Nat), _, rfl, rfl, SqL.of (sG2 _ _ w1), hLb, _, rfl, wb, _, (xx : Nat), _, rfl, rfl, SqL.of (sG2 _ _ hwbr), atI_nat wbx, ?_⟩
            refine ⟨_, rfl, _, rfl, la, _, (xx : Nat), _, rfl, rfl, SqT.of (sG2 _ _ hla), atI_nat lx, _, _, rfl, rfl, ?_⟩
            refine ⟨_, f1, ?_, ?_, same_upd f2 nD⟩
            · rw [List.length_map, List.length_map, List.length_take]; exact small1000 (by omega)
            · rw [upd_same, List.take_add_one, hx, List.map_append, List.map_append]
              show _ = some (HO.lst (_ ++ [V.int (mat S.ws b xx + (later.getD xx none).getD 0)]))
              rw [hu']; rfl
          rintro G2 ⟨f1, f2⟩
          rw [List.length_map, List.length_map, List.take_length] at f1
          have lpos : 0 < (srvP later).length := by
            obtain ⟨x, mx⟩ := pr2.some
            obtain ⟨i, hi⟩ := List.getElem?_of_mem mx
            have il := (List.getElem?_eq_some_iff.mp hi).1
            refine List.length_pos_of_mem (a := i) (List.mem_filter.mpr ⟨List.mem_range.mpr il, ?_⟩)
            rw [List.getD_eq_getElem?_getD, hi]; rfl
          refine ⟨D, _, rfl, SqL.of f1, by rw [List.length_map]; omega, fun m hm' hle => ?_⟩
          have em : leastO (cL S.n.toNat S.ws b later) = m := by
            rw [leastO_cL (by omega)]
            exact minL_eq hm' hle
          refine ⟨_, _, rfl, rfl, ?_⟩
          have := k G2 (sG.trans f2)
          rw [← ec, em] at this
          exact ⟨_, rfl, this⟩
      · have g3 : ¬ st = "trust" := fun e => g3 (decide_eq_true e)
        have ec : cs = cL S.n.toNat S.ws pl row := by
          rcases hC with ⟨e, _⟩ | ⟨_, e, _⟩ | ⟨_, _, e⟩
          · exact absurd e g
          · exact absurd e g3
          · exact e
        rw [ec, hcl2] at hc
        have e := Option.some.inj hc
        have := k H (fun _ _ h => h)
        rw [← e] at this
        exact ⟨_, rfl, this⟩
end
end Toy

namespace Toy
open PySem PySem.Spec PyProof.Rows L2
local macro_rules | `(tactic| walk_at "hp") => `(tactic| first
  | assumption
  | exact upd_same
  | (refine Eq.trans (upd_ne (by first | assumption | (apply Ne.symm; assumption))) ?_; walk_at "hp"))
local macro_rules | `(tactic| walk_at "side") => `(tactic| first
  | exact .inl ⟨by omega, by omega⟩
  | exact .inr ⟨by omega, by omega⟩
  | exact ⟨by omega, by omega⟩
  | (show _ ≤ _; omega)
  | (show (_ : Int) < _; omega)
  | decide
  | assumption)
local macro_rules | `(tactic| walk_at "r") => `(tactic| first
  | refine ⟨_, rfl, ?_⟩
  | refine ⟨_, _, rfl, rfl, ?_⟩
  | refine ⟨_, _, _, _, rfl, rfl, SqL.of (by walk_at "hp"), rfl, ?_⟩
  | refine ⟨_, _, _, _, rfl, rfl, SqT.of (by walk_at "hp"), rfl, ?_⟩
  | refine ⟨_, _, _, _, rfl, rfl, (by walk_at "hp"), rfl, ?_⟩
  | refine And.intro rfl ?_
  | refine ⟨_, _, rfl, SqT.of (by walk_at "hp"), ?_⟩
  | refine ⟨_, _, rfl, SqL.of (by walk_at "hp"), ?_⟩
  | refine .inl ⟨_, rfl, ?_⟩
  | refine ⟨_, _, rfl, .inl (SqL.of (by walk_at "hp")), ?_⟩
  | refine ⟨_, _, rfl, .inr (SqT.of (by walk_at "hp")), ?_⟩
  | refine ⟨_, _, rfl, .inl ⟨SqL.of (by walk_at "hp"), ?_⟩⟩
  | refine And.intro (.inl ⟨rfl, _, SqL.of (by walk_at "hp")⟩) ?_
  | refine ⟨_, _, _, rfl, rfl, (by walk_at "hp"), ?_⟩
  | refine ⟨_, _, rfl, (by walk_at "hp"), ?_⟩
  | refine And.intro (by walk_at "side") ?_)
local macro_rules | `(tactic| walk_at "rr") => `(tactic| (repeat walk_at "r"))
local macro_rules | `(tactic| walk_at "k") => `(tactic| first
  | refine ite2 (fun _ => ?_) (fun g => absurd rfl g)
  | refine ite2 (fun g => absurd g (by decide)) (fun _ => ?_)
  | refine ite2 (fun _ => ?_) (fun g => absurd (decide_eq_true (by omega)) g)
  | refine ite2 (fun g => absurd (of_decide_eq_true g) (by omega)) (fun _ => ?_)
  | refine ite2 (fun g => (nd_t g (by omega)).elim) (fun _ => ?_)
  | refine ite2 (fun _ => ?_) (fun g => absurd (nd_f g) (by omega)))
local macro_rules | `(tactic| walk_at "rk") => `(tactic| (repeat (first | walk_at "r" | walk_at "k")))
theorem cL_get {n pl b : Nat} {ws : List (List Int)} {row : List (Option Int)} (h : b < n) : (cL n ws pl row).getD b none = (row.getD b none).map fun p => mat ws pl b + p := by
  rw [List.getD_eq_getElem?_getD, cL_at h]; rfl
theorem CsOf.iff {S : Sys} {pl : Nat} {off : List Int} {row : List (Option Int)} {hv : V} {st : Str} {cs : List (Option Int)} (c : CsOf S pl off row hv st cs) {b : Nat} (h : b < S.n.toNat) : (cs.getD b none).isSome = (row.getD b none).isSome := by
  rcases c with ⟨_, rfl⟩ | ⟨_, _, (⟨_, rfl⟩ | ⟨_, _, _, _, rfl⟩)⟩ | ⟨_, _, rfl⟩
  · rw [List.getD_eq_getElem?_getD, show (ocL S.n.toNat S.ws pl _ row)[b]? = _ from rmap_at h]
    cases row.getD b none <;> rfl
  · rw [cL_get h]; cases row.getD b none <;> rfl
  · rw [List.getD_eq_getElem?_getD, show (tL S.n.toNat S.ws _ _)[b]? = _ from rmap_at h, cL_get h]
    cases row.getD b none <;> rfl
  · rw [cL_get h]; cases row.getD b none <;> rfl
theorem srvP_sorted (row : List (Option Int)) : (srvP row).Pairwise (· < ·) := List.Pairwise.sublist List.filter_sublist List.pairwise_lt_range
def spLawChosen : Sp := fun vs H Q _ => ∃ (wa va oa ak : Addr) (S : Sys) (mo : Str) (q L ta : Addr) (kvs : List (Key × V)) (rs : List (Str × List (Option Int))) (M : Nat → Nat → Int) (ds : List Addr) (ts : List (List (Str × Int))) (st : Str) (s : Int) (pl : Nat) (off : List Int) (hv : V) (z : Str) (hh : V) (row cs : List (Option Int)) (pp : Nat), vs = [.ref wa, .str st, .ref va, .ref ak] ∧ SysOk S ∧ WdAt H wa S mo q L ta kvs rs M ds ts ∧
  H va = some (.tup [.int s, .int pl, .ref oa, hv]) ∧ H oa = some (.tup (off.map V.int)) ∧ off.length = S.n.toNat ∧ (pl : Int) < S.n ∧ H ak = some (.tup [.str z, hh]) ∧ (z, row) ∈ S.rs ∧ CsOf S pl off row hh st cs ∧ IsFst cs pp ∧
  (st = "calm" → row.getD pl none = some 0 → ∀ G, Same H G → Q (.int pl) G) ∧ (¬ (st = "calm" ∧ row.getD pl none = some 0) → ∀ G, Same H G → Q (.int pp) G)
section
variable {P : Program} {w : World} {K : PySem.W.Frag} {mg : Str → Option Value} {base : Heap}
theorem ok__law_chosen (T : Top K mg) : Ok P w K mg base 3 "_law_chosen" ["world", "style", "view", "ask"] spLawChosen := by
  refine ok_of T.d__law_chosen sc__law_chosen (fun vs H Q E h => ?_) (fun f cdv A outer s H vs Q E hr h => ?_)
  · obtain ⟨wa, va, oa, ak, S, mo, q, L, ta, kvs, rs, M, ds, ts, st, s, pl, off, hv, z, hh, row, cs, pp, rfl, _⟩ := h
    rfl
  · obtain ⟨wa, va, oa, ak, S, mo, q, L, ta, kvs, rs, M, ds, ts, st, s0, pl, off, hv, z, hh, row, cs, pp, rfl, ok, W, hva, hoa, ol, hpl, hak, hm, hC, hF, k1, k2⟩ := h
    obtain ⟨f__law_serving, fd__law_serving, m__law_serving, k__law_serving, b__law_serving, G__law_serving⟩ := ok__law_serving (P := P) (w := w) (base := base) T
    have hr__law_serving : Room 1 _ := hr.mono (by decide)
    obtain ⟨f__law_number, fd__law_number, m__law_number, k__law_number, b__law_number, G__law_number⟩ := ok__law_number (P := P) (w := w) (base := base) T
    have hr__law_number : Room 2 _ := hr.mono (by decide)
    have hu := hu_of hr
    have n1 := ok.n1
    have n6 := ok.n6
    have pr := (ok.pr _ hm).1
    have prl : (row.length : Int) = S.n := pr.len
    have cl := hC.len
    obtain ⟨pa, hval, hpa⟩ := W.row hm
    obtain ⟨cost, hcost⟩ : ∃ cost : Nat → Int, ∀ b, cost b = (cs.getD b none).getD 0 := ⟨_, fun _ => rfl⟩
    have inS : ∀ b ∈ srvP row, b < S.n.toNat ∧ cs.getD b none = some (cost b) := fun b mb => by
      obtain ⟨m1, m2⟩ := List.mem_filter.mp (show b ∈ (List.range row.length).filter fun b => (row.getD b none).isSome from mb)
      have m1 := List.mem_range.mp m1
      have lb : b < S.n.toNat := by omega
      have i := hC.iff lb
      rw [show (row.getD b none).isSome = true from m2] at i
      obtain ⟨u, hu'⟩ := Option.isSome_iff_exists.mp i
      exact ⟨lb, by rw [hcost, hu']; rfl⟩
    have ppS : pp ∈ srvP row := by
      have lp := (List.getElem?_eq_some_iff.mp hF.1).1
      have i := hC.iff (b := pp) (by omega)
      rw [List.getD_eq_getElem?_getD, hF.1] at i
      exact List.mem_filter.mpr ⟨List.mem_range.mpr (by omega), i.symm⟩
    refine ⟨_, (pss_cons (ps_set (i := 4) sc__law_chosen.nd rfl (Or.inl rfl) (pe_dget hu (pe_ix ix_tup (pv 0) pe_int (fun _ _ => rfl)) (pe_ix ix_tup (pv 3) pe_int (fun _ _ => rfl)) (fun _ _ => rfl)))
      (pss_cons (ps_if (PW.pt (pw_and (pt_cmpR op_eq (pv 1) pe_str (nomark _)) (pw_and1 (pt_cmpR op_eq (pe_ix ix_tup (pv 4) (pe_ix ix_tup (pv 2) pe_int (fun _ _ => rfl)) (fun _ _ => rfl)) pe_int (nomark _)))))
      (pss_one (ps_ret (pe_ix ix_tup (pv 2) pe_int (fun _ _ => rfl))))
      pss_nil)
      (pss_cons (ps_set (i := 5) sc__law_chosen.nd rfl (Or.inl rfl) pe_non)
      (pss_cons (ps_set (i := 6) sc__law_chosen.nd rfl (Or.inl rfl) pe_non)
      (pss_cons (ps_for PassesOwn.never rfl (pi_list (pe_call G__law_serving hr__law_serving rfl m__law_serving k__law_serving b__law_serving .nil pass0 (pa_cons (pv 4) pa_nil))) (pg_name (i := 7) sc__law_chosen.nd rfl (Or.inl rfl))
      (pss_cons (ps_set (i := 8) sc__law_chosen.nd rfl (Or.inl rfl) (pe_call G__law_number hr__law_number rfl m__law_number k__law_number b__law_number .nil pass0 (pa_cons (pv 0) (pa_cons (pv 1) (pa_cons (pv 2) (pa_cons (pv 3) (pa_cons (pv 7) pa_nil)))))))
      (pss_one (ps_if (PW.pt (pw_or (pt_cmpR op_isN (pv 5) pe_non (nomark _)) (pw_or1 (pt_cmpR op_lt (pv 8) (pv 5) (nomark _)))))
      (pss_cons (ps_set (i := 5) sc__law_chosen.nd rfl (Or.inl rfl) (pv 8))
      (pss_one (ps_set (i := 6) sc__law_chosen.nd rfl (Or.inl rfl) (pv 7))))
      pss_nil))))
      (pss_one (ps_ret (pv 6)))))))), ?_⟩
    refine ⟨_, rfl, wa, _, 1, .ref q, rfl, rfl, SqT.of W.tup, rfl, _, rfl, ak, _, 0, .str z, rfl, rfl, SqT.of hak, rfl, q, .ref pa, rfl, (by rw [← hval]; exact DGet.k (k := Sum.inr z) W.dct), ?_⟩
    refine ⟨_, rfl, rfl, _, rfl, ?_⟩
    rw [dec_str2]
    refine ite2 (fun g2 => ?_) (fun g2 => ?_)
    · have g2 : st = "calm" := of_decide_eq_true g2
      have ro : (row.map vO)[pl]? = some (vO (row.getD pl none)) := by rw [List.getElem?_map, getDat none (by omega)]; rfl
      have e0 : decide (vO (row.getD pl none) = V.int 0) = decide (row.getD pl none = some 0) := by
        rw [Bool.eq_iff_iff, decide_eq_true_iff, decide_eq_true_iff]
        cases row.getD pl none with
        | none => exact ⟨(fun e => by cases e), (fun e => by cases e)⟩
        | some y => exact ⟨fun e => by injection e with e; rw [e], fun e => by injection e with e; rw [e]; rfl⟩
      have sc0 : scal (vO (row.getD pl none)) (V.int 0) = true := by cases row.getD pl none <;> rfl
      refine ⟨_, rfl, _, rfl, va, _, 1, .int pl, rfl, rfl, SqT.of hva, rfl, pa, _, (pl : Nat), _, rfl, rfl, SqT.of hpa, atI_nat ro, sc0, _, rfl, ?_⟩
      rw [e0]
      refine ite2 (fun g4 => ?_) (fun g4 => ?_)
      · exact ⟨_, rfl, va, _, 1, .int pl, rfl, rfl, SqT.of hva, rfl, k1 g2 (of_decide_eq_true g4) H (fun _ _ h => h)⟩
      · have nc : ¬ (st = "calm" ∧ row.getD pl none = some 0) := fun ⟨_, e⟩ => g4 (decide_eq_true e)
        refine ⟨_, rfl, pa, row, rfl, hpa, by omega, fun l G sG eG => ?_⟩
        refine ⟨l, rfl, ⟨_, SqL.of eG⟩, ?_⟩
        refine for_list (K := K) (a := l) (xs := ((srvP row).map fun b => ((b : Nat) : Int)).map V.int) (fun i σ' G2 => (∃ o7 o8 b5 b6, σ' = [some (.ref wa), some (.str st), some (.ref va), some (.ref ak), some (.ref pa), some b5, some b6, o7, o8] ∧ ((i = 0 ∧ b5 = .non ∧ b6 = .non) ∨ ∃ j, j < i ∧ ∃ b, (srvP row)[j]? = some b ∧ b5 = .int (cost b) ∧ b6 = .int (b : Nat) ∧ (∀ m x, m < i → (srvP row)[m]? = some x → cost b ≤ cost x) ∧ ∀ m x, m < j → (srvP row)[m]? = some x → cost b < cost x)) ∧ Same G G2) ⟨⟨none, none, .non, .non, rfl, .inl ⟨rfl, rfl, rfl⟩⟩, Same.refl _⟩ (fun i σ' G2 _ h => SqL.of (h.2 _ _ eG)) ?_ ?_
        · rintro i x σ' G2 hi ⟨⟨o7, o8, b5, b6, rfl, inv⟩, f2⟩
          rw [List.map_map] at hi
          obtain ⟨b, hb, rfl⟩ := map_at hi
          obtain ⟨m1, m2⟩ := inS b (List.mem_of_getElem? hb)
          have sG2 := sG.trans f2
          refine ⟨_, rfl, _, rfl, _, rfl, _, rfl, _, rfl, wa, va, oa, ak, S, mo, q, L, ta, kvs, rs, M, ds, ts, st, s0, pl, off, hv, z, hh, row, cs, b, cost b, rfl, ok, W.same sG2, sG2 _ _ hva, sG2 _ _ hoa, ol, hpl, sG2 _ _ hak, hm, hC, by omega, m2, fun G3 s3 => ?_⟩
          rcases inv with ⟨rfl, rfl, rfl⟩ | ⟨j, hj, b', hb', rfl, rfl, le, lt⟩
          · refine ⟨_, rfl, rfl, _, rfl, ?_⟩
            refine ite2 (fun _ => ?_) (fun g => absurd rfl g)
            refine ⟨_, rfl, _, rfl, ⟨_, _, _, _, rfl, .inr ⟨0, Nat.lt_succ_self _, b, hb, rfl, rfl, fun m x hm' hx => ?_, fun m x hm' => absurd hm' (Nat.not_lt_zero _)⟩⟩, f2.trans s3⟩
            have : m = 0 := by omega
            subst this
            rw [hb] at hx
            rw [Option.some.inj hx]
            exact Int.le_refl _
          · refine ⟨_, rfl, rfl, _, rfl, ?_⟩
            refine ite2 (fun g => nomatch of_decide_eq_true g) (fun _ => ?_)
            refine ⟨_, rfl, _, rfl, _, _, rfl, rfl, _, rfl, ?_⟩
            refine ite2 (fun g => ?_) (fun g => ?_)
            · have g : cost b < cost b' := of_decide_eq_true g
              refine ⟨_, rfl, _, rfl, ⟨_, _, _, _, rfl, .inr ⟨i, Nat.lt_succ_self _, b, hb, rfl, rfl, fun m x hm' hx => ?_, fun m x hm' hx => ?_⟩⟩, f2.trans s3⟩
              · by_cases e : m = i
                · subst e
                  rw [hb] at hx
                  rw [Option.some.inj hx]
                  exact Int.le_refl _
                · have := le m x (by omega) hx
                  omega
              · have := le m x hm' hx
                omega
            · have g : ¬ cost b < cost b' := fun q => g (decide_eq_true q)
              refine ⟨⟨_, _, _, _, rfl, .inr ⟨j, by omega, b', hb', rfl, rfl, fun m x hm' hx => ?_, lt⟩⟩, f2.trans s3⟩
              by_cases e : m = i
              · subst e
                rw [hb] at hx
                rw [← Option.some.inj hx]
                omega
              · exact le m x (by omega) hx
        · rintro σ' G2 ⟨⟨o7, o8, b5, b6, rfl, inv⟩, f2⟩
          rw [List.length_map, List.length_map] at inv
          obtain ⟨m0, hm0⟩ := List.getElem?_of_mem ppS
          have l0 := (List.getElem?_eq_some_iff.mp hm0).1
          rcases inv with ⟨e, _, _⟩ | ⟨j, hj, b, hb, rfl, rfl, le, lt⟩
          · omega
          have eb : b = pp := by
            have lb := le m0 pp l0 hm0
            obtain ⟨mb1, mb2⟩ := inS b (List.mem_of_getElem? hb)
            have cpp : cost pp = leastO cs := by
              obtain ⟨_, q2⟩ := inS pp ppS
              rw [List.getD_eq_getElem?_getD, hF.1] at q2
              exact (Option.some.inj q2).symm
            have csb : cs[b]? = some (some (cost b)) := by
              have bl : b < cs.length := by omega
              rw [List.getD_eq_getElem?_getD, List.getElem?_eq_getElem bl] at mb2
              rw [List.getElem?_eq_getElem bl]
              exact congrArg some mb2
            have ge := leastO_le (List.mem_of_getElem? csb)
            have ec : cost b = leastO cs := by omega
            rcases Nat.lt_trichotomy b pp with h | h | h
            · exact absurd (by rw [csb, ec]) (hF.2 b h)
            · exact h
            · have jm : m0 < j := by
                have pw := srvP_sorted row
                refine Classical.byContradiction fun nj => ?_
                by_cases e : m0 = j
                · rw [e, hb] at hm0
                  have := Option.some.inj hm0
                  omega
                · obtain ⟨lj, ej⟩ := List.getElem?_eq_some_iff.mp hb
                  obtain ⟨lm, em⟩ := List.getElem?_eq_some_iff.mp hm0
                  have := List.pairwise_iff_getElem.mp pw j m0 lj lm (by omega)
                  rw [ej, em] at this
                  omega
              have := lt m0 pp jm hm0
              omega
          rw [eb]
          exact ⟨_, rfl, k2 nc G2 (sG.trans f2)⟩
    · have g2 : ¬ st = "calm" := fun e => g2 (decide_eq_true e)
      have nc : ¬ (st = "calm" ∧ row.getD pl none = some 0) := fun ⟨e, _⟩ => g2 e
      refine ⟨_, rfl, pa, row, rfl, hpa, by omega, fun l G sG eG => ?_⟩
      refine ⟨l, rfl, ⟨_, SqL.of eG⟩, ?_⟩
      refine for_list (K := K) (a := l) (xs := ((srvP row).map fun b => ((b : Nat) : Int)).map V.int) (fun i σ' G2 => (∃ o7 o8 b5 b6, σ' = [some (.ref wa), some (.str st), some (.ref va), some (.ref ak), some (.ref pa), some b5, some b6, o7, o8] ∧ ((i = 0 ∧ b5 = .non ∧ b6 = .non) ∨ ∃ j, j < i ∧ ∃ b, (srvP row)[j]? = some b ∧ b5 = .int (cost b) ∧ b6 = .int (b : Nat) ∧ (∀ m x, m < i → (srvP row)[m]? = some x → cost b ≤ cost x) ∧ ∀ m x, m < j → (srvP row)[m]? = some x → cost b < cost x)) ∧ Same G G2) ⟨⟨none, none, .non, .non, rfl, .inl ⟨rfl, rfl, rfl⟩⟩, Same.refl _⟩ (fun i σ' G2 _ h => SqL.of (h.2 _ _ eG)) ?_ ?_
      · rintro i x σ' G2 hi ⟨⟨o7, o8, b5, b6, rfl, inv⟩, f2⟩
        rw [List.map_map] at hi
        obtain ⟨b, hb, rfl⟩ := map_at hi
        obtain ⟨m1, m2⟩ := inS b (List.mem_of_getElem? hb)
        have sG2 := sG.trans f2
        refine ⟨_, rfl, _, rfl, _, rfl, _, rfl, _, rfl, wa, va, oa, ak, S, mo, q, L, ta, kvs, rs, M, ds, ts, st, s0, pl, off, hv, z, hh, row, cs, b, cost b, rfl, ok, W.same sG2, sG2 _ _ hva, sG2 _ _ hoa, ol, hpl, sG2 _ _ hak, hm, hC, by omega, m2, fun G3 s3 => ?_⟩
        rcases inv with ⟨rfl, rfl, rfl⟩ | ⟨j, hj, b', hb', rfl, rfl, le, lt⟩
        · refine ⟨_, rfl, rfl, _, rfl, ?_⟩
          refine ite2 (fun _ => ?_) (fun g => absurd rfl g)
          refine ⟨_, rfl, _, rfl, ⟨_, _, _, _, rfl, .inr ⟨0, Nat.lt_succ_self _, b, hb, rfl, rfl, fun m x hm' hx => ?_, fun m x hm' => absurd hm' (Nat.not_lt_zero _)⟩⟩, f2.trans s3⟩
          have : m = 0 := by omega
          subst this
          rw [hb] at hx
          rw [Option.some.inj hx]
          exact Int.le_refl _
        · refine ⟨_, rfl, rfl, _, rfl, ?_⟩
          refine ite2 (fun g => nomatch of_decide_eq_true g) (fun _ => ?_)
          refine ⟨_, rfl, _, rfl, _, _, rfl, rfl, _, rfl, ?_⟩
          refine ite2 (fun g => ?_) (fun g => ?_)
          · have g : cost b < cost b' := of_decide_eq_true g
            refine ⟨_, rfl, _, rfl, ⟨_, _, _, _, rfl, .inr ⟨i, Nat.lt_succ_self _, b, hb, rfl, rfl, fun m x hm' hx => ?_, fun m x hm' hx => ?_⟩⟩, f2.trans s3⟩
            · by_cases e : m = i
              · subst e
                rw [hb] at hx
                rw [Option.some.inj hx]
                exact Int.le_refl _
              · have := le m x (by omega) hx
                omega
            · have := le m x hm' hx
              omega
          · have g : ¬ cost b < cost b' := fun q => g (decide_eq_true q)
            refine ⟨⟨_, _, _, _, rfl, .inr ⟨j, by omega, b', hb', rfl, rfl, fun m x hm' hx => ?_, lt⟩⟩, f2.trans s3⟩
            by_cases e : m = i
            · subst e
              rw [hb] at hx
              rw [← Option.some.inj hx]
              omega
            · exact le m x (by omega) hx
      · rintro σ' G2 ⟨⟨o7, o8, b5, b6, rfl, inv⟩, f2⟩
        rw [List.length_map, List.length_map] at inv
        obtain ⟨m0, hm0⟩ := List.getElem?_of_mem ppS
        have l0 := (List.getElem?_eq_some_iff.mp hm0).1
        rcases inv with ⟨e, _, _⟩ | ⟨j, hj, b, hb, rfl, rfl, le, lt⟩
        · omega
        have eb : b = pp := by
          have lb := le m0 pp l0 hm0
          obtain ⟨mb1, mb2⟩ := inS b (List.mem_of_getElem? hb)
          have cpp : cost pp = leastO cs := by
            obtain ⟨_, q2⟩ := inS pp ppS
            rw [List.getD_eq_getElem?_getD, hF.1] at q2
            exact (Option.some.inj q2).symm
          have csb : cs[b]? = some (some (cost b)) := by
            have bl : b < cs.length := by omega
            rw [List.getD_eq_getElem?_getD, List.getElem?_eq_getElem bl] at mb2
            rw [List.getElem?_eq_getElem bl]
            exact congrArg some mb2
          have ge := leastO_le (List.mem_of_getElem? csb)
          have ec : cost b = leastO cs := by omega
          rcases Nat.lt_trichotomy b pp with h | h | h
          · exact absurd (by rw [csb, ec]) (hF.2 b h)
          · exact h
          · have jm : m0 < j := by
              have pw := srvP_sorted row
              refine Classical.byContradiction fun nj => ?_
              by_cases e : m0 = j
              · rw [e, hb] at hm0
                have := Option.some.inj hm0
                omega
              · obtain ⟨lj, ej⟩ := List.getElem?_eq_some_iff.mp hb
                obtain ⟨lm, em⟩ := List.getElem?_eq_some_iff.mp hm0
                have := List.pairwise_iff_getElem.mp pw j m0 lj lm (by omega)
                rw [ej, em] at this
                omega
            have := lt m0 pp jm hm0
            omega
        rw [eb]
        exact ⟨_, rfl, k2 nc G2 (sG.trans f2)⟩
end
end Toy

namespace Toy
open PySem PySem.Spec PyProof.Rows L2
local macro_rules | `(tactic| walk_at "hp") => `(tactic| first
  | assumption
  | exact upd_same
  | (refine Eq.trans (upd_ne (by first | assumption | (apply Ne.symm; assumption))) ?_; walk_at "hp"))
local macro_rules | `(tactic| walk_at "side") => `(tactic| first
  | exact .inl ⟨by omega, by omega⟩
  | exact .inr ⟨by omega, by omega⟩
  | exact ⟨by omega, by omega⟩
  | (show _ ≤ _; omega)
  | (show (_ : Int) < _; omega)
  | decide
  | assumption)
local macro_rules | `(tactic| walk_at "r") => `(tactic| first
  | refine ⟨_, rfl, ?_⟩
  | refine ⟨_, _, rfl, rfl, ?_⟩
  | refine ⟨_, _, _, _, rfl, rfl, SqL.of (by walk_at "hp"), rfl, ?_⟩
  | refine ⟨_, _, _, _, rfl, rfl, SqT.of (by walk_at "hp"), rfl, ?_⟩
  | refine ⟨_, _, _, _, rfl, rfl, (by walk_at "hp"), rfl, ?_⟩
  | refine And.intro rfl ?_
  | refine ⟨_, _, rfl, SqT.of (by walk_at "hp"), ?_⟩
  | refine ⟨_, _, rfl, SqL.of (by walk_at "hp"), ?_⟩
  | refine .inl ⟨_, rfl, ?_⟩
  | refine ⟨_, _, rfl, .inl (SqL.of (by walk_at "hp")), ?_⟩
  | refine ⟨_, _, rfl, .inr (SqT.of (by walk_at "hp")), ?_⟩
  | refine ⟨_, _, rfl, .inl ⟨SqL.of (by walk_at "hp"), ?_⟩⟩
  | refine And.intro (.inl ⟨rfl, _, SqL.of (by walk_at "hp")⟩) ?_
  | refine ⟨_, _, _, rfl, rfl, (by walk_at "hp"), ?_⟩
  | refine ⟨_, _, rfl, (by walk_at "hp"), ?_⟩
  | refine And.intro (by walk_at "side") ?_)
local macro_rules | `(tactic| walk_at "rr") => `(tactic| (repeat walk_at "r"))
local macro_rules | `(tactic| walk_at "k") => `(tactic| first
  | refine ite2 (fun _ => ?_) (fun g => absurd rfl g)
  | refine ite2 (fun g => absurd g (by decide)) (fun _ => ?_)
  | refine ite2 (fun _ => ?_) (fun g => absurd (decide_eq_true (by omega)) g)
  | refine ite2 (fun g => absurd (of_decide_eq_true g) (by omega)) (fun _ => ?_)
  | refine ite2 (fun g => (nd_t g (by omega)).elim) (fun _ => ?_)
  | refine ite2 (fun _ => ?_) (fun g => absurd (nd_f g) (by omega)))
local macro_rules | `(tactic| walk_at "rk") => `(tactic| (repeat (first | walk_at "r" | walk_at "k")))
theorem LM.keepD {c d : Addr} {H G : Hp} {L : Addr} {n : Nat} {M : Nat → Nat → Int} (m : LM H L n M) (D : Dice c H d) (k : Keep d H G) : LM G L n M := by
  obtain ⟨as, h1, h2, h3⟩ := m.ex
  obtain ⟨x, i, b, s, t, e, _⟩ := D.ex
  refine ⟨as, k _ _ (fun z => ?_) h1, h2, fun i a ha => k _ _ (fun z => ?_) (h3 i a ha)⟩
  · rw [z, e] at h1
    injection h1 with h1
    injection h1 with h1
    cases as <;> simp at h1
  · have e3 := h3 i a ha
    rw [z, e] at e3
    injection e3 with e3
    injection e3 with e3
    have m : V.bl b ∈ rowV n (M i) := by rw [← e3]; simp
    unfold rowV at m
    obtain ⟨_, _, q⟩ := List.mem_map.mp m
    cases q
theorem WdAt.keepD {c d : Addr} {H G : Hp} {wa : Addr} {S : Sys} {mo : Str} {q L ta : Addr} {kvs : List (Key × V)} {rs : List (Str × List (Option Int))} {M : Nat → Nat → Int} {ds : List Addr} {ts : List (List (Str × Int))} (w : WdAt H wa S mo q L ta kvs rs M ds ts) (D : Dice c H d) (k : Keep d H G) : WdAt G wa S mo q L ta kvs rs M ds ts :=
  ⟨k.tup D w.tup, w.lm.keepD D k, w.eq, k _ _ (D.dK w.dct) w.dct, w.of.firm OptT.firm (keep_tups k D), w.nd, w.pm, w.trn.keepD D k, w.tok⟩
def spRelated : Sp := fun vs H Q _ => ∃ (tl wa va oa ak : Addr) (S : Sys) (mo : Str) (q L ta : Addr) (kvs : List (Key × V)) (rs : List (Str × List (Option Int))) (M : Nat → Nat → Int) (ds : List Addr) (ts : List (List (Str × Int))) (s : Int) (pl : Nat) (hv : V) (z : Str) (hh : V) (row : List (Option Int)) (p0 p1 p2 p3 : Int), vs = [.ref tl, .ref wa, .ref va, .ref ak] ∧ SysOk S ∧ WdAt H wa S mo q L ta kvs rs M ds ts ∧
  H tl = some (.lst [.int p0, .int p1, .int p2, .int p3]) ∧ H va = some (.tup [.int s, .int pl, .ref oa, hv]) ∧ (pl : Int) < S.n ∧ H ak = some (.tup [.str z, hh]) ∧ (z, row) ∈ S.rs ∧ (row.getD pl none = some 0 → p1 = pl) ∧ (¬ row.getD pl none = some 0 → p1 = p0) ∧ (hh = .non → p2 = p0) ∧ Q (.bl true) H
def spLawViewS : Sp := fun vs H Q _ => ∃ (d c wa : Addr) (S : Sys) (mo : Str) (q L ta : Addr) (kvs : List (Key × V)) (rs : List (Str × List (Option Int))) (M : Nat → Nat → Int) (ds : List Addr) (ts : List (List (Str × Int))), vs = [.ref d, .ref wa] ∧ Dice c H d ∧ SysOk S ∧ WdAt H wa S mo q L ta kvs rs M ds ts ∧
  ∀ (va oa : Addr) (s : Int) (pl : Nat) (off : List Int) (hv : V) (G : Hp), Keep d H G → Dice c G d → G va = some (.tup [.int s, .int pl, .ref oa, hv]) → G oa = some (.tup (off.map V.int)) → OffOk S.n.toNat S.ws off → 0 ≤ s → s < ts.length → (pl : Int) < S.n → Flat1 hv → hintB mo (ts.getD s.toNat []) hv = true → Q (.ref va) G
section
variable {P : Program} {w : World} {K : PySem.W.Frag} {mg : Str → Option Value} {base : Heap}
theorem ok__law_related (T : Top K mg) : Ok P w K mg base 1 "_law_related" ["told", "world", "view", "ask"] spRelated := by
  refine ok_of T.d__law_related sc__law_related (fun vs H Q E h => ?_) (fun f cdv A outer s H vs Q E hr h => ?_)
  · obtain ⟨tl, wa, va, oa, ak, S, mo, q, L, ta, kvs, rs, M, ds, ts, s, pl, hv, z, hh, row, p0, p1, p2, p3, rfl, _⟩ := h
    rfl
  · obtain ⟨tl, wa, va, oa, ak, S, mo, q, L, ta, kvs, rs, M, ds, ts, s0, pl, hv, z, hh, row, p0, p1, p2, p3, rfl, ok, W, htl, hva, hpl, hak, hm, c1, c2, c3, k⟩ := h
    skip
    have hu := hu_of hr
    have prl : (row.length : Int) = S.n := (ok.pr _ hm).1.len
    obtain ⟨pa, hval, hpa⟩ := W.row hm
    refine ⟨_, (pss_cons (ps_asg (pv 0) (pg_lst rfl (pgs_cons (pg_name (i := 4) sc__law_related.nd rfl (Or.inl rfl)) (pgs_cons (pg_name (i := 5) sc__law_related.nd rfl (Or.inl rfl)) (pgs_cons (pg_name (i := 6) sc__law_related.nd rfl (Or.inl rfl)) (pgs_cons (pg_name (i := 7) sc__law_related.nd rfl (Or.inl rfl)) pgs_nil))))))
      (pss_cons (ps_if (PW.pt (pw_and (pt_cmpR op_isN (pe_ix ix_tup (pv 3) pe_int (fun _ _ => rfl)) pe_non (nomark _)) (pw_and1 (pt_cmpR op_ne (pv 6) (pv 4) (nomark _)))))
      (pss_one (ps_ret pe_bl))
      pss_nil)
      (pss_cons (ps_if (pt_cmpR op_eq (pe_ix ix_tup (pe_dget hu (pe_ix ix_tup (pv 1) pe_int (fun _ _ => rfl)) (pe_ix ix_tup (pv 3) pe_int (fun _ _ => rfl)) (fun _ _ => rfl)) (pe_ix ix_tup (pv 2) pe_int (fun _ _ => rfl)) (fun _ _ => rfl)) pe_int (nomark _))
      (pss_one (ps_ret (pe_cmpR op_eq (pv 5) (pe_ix ix_tup (pv 2) pe_int (fun _ _ => rfl)) (nomark _))))
      pss_nil)
      (pss_one (ps_ret (pe_cmpR op_eq (pv 5) (pv 4) (nomark _))))))), ?_⟩
    refine ⟨_, rfl, tl, _, rfl, SqL.of htl, rfl, _, _, rfl, _, _, rfl, _, _, rfl, _, _, rfl, rfl, ?_⟩
    have i_eq : ∀ {a b : Int}, decide (V.int a = V.int b) = decide (a = b) := fun {a b} => by
      rw [Bool.eq_iff_iff, decide_eq_true_iff, decide_eq_true_iff]
      exact ⟨fun e => by injection e, fun e => by rw [e]⟩
    refine ⟨_, rfl, ak, _, 1, hh, rfl, rfl, SqT.of hak, rfl, rfl, _, rfl, ?_⟩
    have ro : (row.map vO)[pl]? = some (vO (row.getD pl none)) := by rw [List.getElem?_map, getDat none (by omega)]; rfl
    have e0 : decide (vO (row.getD pl none) = V.int 0) = decide (row.getD pl none = some 0) := by
      rw [Bool.eq_iff_iff, decide_eq_true_iff, decide_eq_true_iff]
      cases row.getD pl none with
      | none => exact ⟨(fun e => by cases e), (fun e => by cases e)⟩
      | some y => exact ⟨fun e => by injection e with e; rw [e], fun e => by injection e with e; rw [e]; rfl⟩
    have sc0 : scal (vO (row.getD pl none)) (V.int 0) = true := by cases row.getD pl none <;> rfl
    refine ite2 (fun g => ?_) (fun g => ?_)
    · have g : hh = .non := of_decide_eq_true g
      refine ⟨_, rfl, _, rfl, rfl, _, rfl, ?_⟩
      rw [i_eq, decide_eq_true (c3 g)]
      refine ite2 (fun g => nomatch g) (fun _ => ?_)
      refine ⟨_, rfl, wa, _, 1, .ref q, rfl, rfl, SqT.of W.tup, rfl, _, rfl, ak, _, 0, .str z, rfl, rfl, SqT.of hak, rfl, q, .ref pa, rfl, (by rw [← hval]; exact DGet.k (k := Sum.inr z) W.dct), ?_⟩
      refine ⟨_, rfl, va, _, 1, .int pl, rfl, rfl, SqT.of hva, rfl, pa, _, (pl : Nat), _, rfl, rfl, SqT.of hpa, atI_nat ro, sc0, _, rfl, ?_⟩
      rw [e0]
      refine ite2 (fun g4 => ?_) (fun g4 => ?_)
      · have g4 := of_decide_eq_true g4
        refine ⟨_, rfl, _, rfl, va, _, 1, .int pl, rfl, rfl, SqT.of hva, rfl, rfl, ?_⟩
        rw [i_eq, decide_eq_true (c1 g4)]
        exact k
      · have g4 : ¬ row.getD pl none = some 0 := fun e => g4 (decide_eq_true e)
        refine ⟨_, rfl, _, rfl, rfl, ?_⟩
        rw [i_eq, decide_eq_true (c2 g4)]
        exact k
    · skip
      refine ⟨_, rfl, wa, _, 1, .ref q, rfl, rfl, SqT.of W.tup, rfl, _, rfl, ak, _, 0, .str z, rfl, rfl, SqT.of hak, rfl, q, .ref pa, rfl, (by rw [← hval]; exact DGet.k (k := Sum.inr z) W.dct), ?_⟩
      refine ⟨_, rfl, va, _, 1, .int pl, rfl, rfl, SqT.of hva, rfl, pa, _, (pl : Nat), _, rfl, rfl, SqT.of hpa, atI_nat ro, sc0, _, rfl, ?_⟩
      rw [e0]
      refine ite2 (fun g4 => ?_) (fun g4 => ?_)
      · have g4 := of_decide_eq_true g4
        refine ⟨_, rfl, _, rfl, va, _, 1, .int pl, rfl, rfl, SqT.of hva, rfl, rfl, ?_⟩
        rw [i_eq, decide_eq_true (c1 g4)]
        exact k
      · have g4 : ¬ row.getD pl none = some 0 := fun e => g4 (decide_eq_true e)
        refine ⟨_, rfl, _, rfl, rfl, ?_⟩
        rw [i_eq, decide_eq_true (c2 g4)]
        exact k
theorem ok__law_view (T : Top K mg) : Ok P w K mg base 2 "_law_view" ["source", "world"] spLawViewS := by
  refine ok_of T.d__law_view sc__law_view (fun vs H Q E h => ?_) (fun f cdv A outer s H vs Q E hr h => ?_)
  · obtain ⟨d, c, wa, S, mo, q, L, ta, kvs, rs, M, ds, ts, rfl, _⟩ := h
    rfl
  · obtain ⟨d, c, wa, S, mo, q, L, ta, kvs, rs, M, ds, ts, rfl, D, ok, W, k⟩ := h
    obtain ⟨f__law_draw, fd__law_draw, m__law_draw, k__law_draw, b__law_draw, G__law_draw⟩ := ok__law_draw (P := P) (w := w) (base := base) T
    have hr__law_draw : Room 1 _ := hr.mono (by decide)
    have hu := hu_of hr
    have n1 := ok.n1
    have n6 := ok.n6
    have tok := W.tok
    have lo := tok.lo
    have hi := tok.hi
    have hT := W.trn
    have len : ds.length = ts.length := Paired.length hT.each
    have lenr : (((ds.map V.ref).length : Nat) : Int) = ts.length := by rw [List.length_map, len]
    obtain ⟨was, w1, w2, w3⟩ := W.lm.ex
    have hwl : (((was.map V.ref).length : Nat) : Int) = S.n := by rw [List.length_map]; omega
    have met := ok.met
    refine ⟨_, (pss_cons (ps_asg (pv 1) (pg_tup rfl (pgs_cons (pg_name (i := 2) sc__law_view.nd rfl (Or.inr rfl)) (pgs_cons (pg_name (i := 3) sc__law_view.nd rfl (Or.inl rfl)) (pgs_cons (pg_name (i := 4) sc__law_view.nd rfl (Or.inl rfl)) (pgs_cons (pg_name (i := 5) sc__law_view.nd rfl (Or.inl rfl)) pgs_nil))))))
      (pss_cons (ps_set (i := 6) sc__law_view.nd rfl (Or.inl rfl) (pe_call G__law_draw hr__law_draw rfl m__law_draw k__law_draw b__law_draw .nil pass0 (pa_cons (pv 0) (pa_cons (pe_callB (id := "len") call_len_seq (by rfl) T.b_len (by decide +kernel) (pa_cons (pv 4) pa_nil)) pa_nil))))
      (pss_cons (ps_set (i := 7) sc__law_view.nd rfl (Or.inl rfl) (pe_call G__law_draw hr__law_draw rfl m__law_draw k__law_draw b__law_draw .nil pass0 (pa_cons (pv 0) (pa_cons (pe_callB (id := "len") call_len_seq (by rfl) T.b_len (by decide +kernel) (pa_cons (pv 2) pa_nil)) pa_nil))))
      (pss_cons (ps_set (i := 8) sc__law_view.nd rfl (Or.inl rfl) (pe_callB (id := "sorted") (call_sortedD rfl) (by rfl) T.b_sorted (by decide +kernel) (pa_cons (pe_ix ix_tup (pv 4) (pv 6) (fun _ _ => rfl)) pa_nil)))
      (pss_cons (ps_set (i := 9) sc__law_view.nd rfl (Or.inl rfl) (pe_call G__law_draw hr__law_draw rfl m__law_draw k__law_draw b__law_draw .nil pass0 (pa_cons (pv 0) (pa_cons (pe_op op_add (pe_callB (id := "len") call_len_seq (by rfl) T.b_len (by decide +kernel) (pa_cons (pv 8) pa_nil)) pe_int) pa_nil))))
      (pss_cons (ps_set (i := 10) sc__law_view.nd rfl (Or.inl rfl) pe_non)
      (C8.pss_cut (ps_if (PW.pt (pw_and (pt_cmpR op_ne (pv 5) pe_str (nomark _)) (pw_and1 (pt_cmpR op_gt (pv 9) pe_int (nomark _)))))
      (pss_one (ps_set (i := 10) sc__law_view.nd rfl (Or.inl rfl) (pe_ix ix_list (pv 8) (pe_op op_sub (pv 9) pe_int) (fun _ _ => rfl))))
      pss_nil)
      (pss_cons (ps_set (i := 11) sc__law_view.nd rfl (Or.inr rfl) (pe_lc (own := [("a", 14)]) (g := gName 14) rfl sc__law_view.nd (pi_range1 (by rfl) T.b_range (pa_cons (pe_callB (id := "len") call_len_seq (by rfl) T.b_len (by decide +kernel) (pa_cons (pv 2) pa_nil)) pa_nil)) (blkOk_by (own := [("a", 14)]) (N := ["source", "world", "ways", "requests", "turns", "mode", "state", "post", "names", "pick", "hint", "first", "raw", "b", "a", "number"]) (sc := defScope s__law_view) (by decide +kernel)) (fun _ _ _ _ _ => (pg_name (i := 14) sc__law_view.nd rfl (Or.inl rfl))) (fun _ _ _ _ _ => pts_nil) (fun _ _ _ _ _ => (pe_call G__law_draw hr__law_draw rfl m__law_draw k__law_draw b__law_draw .nil pass0 (pa_cons (pv 0) (pa_cons pe_int pa_nil))))))
      (pss_cons (ps_set (i := 12) sc__law_view.nd rfl (Or.inr rfl) (pe_lst pa_nil))
      (pss_cons (ps_for PassesOwn.never rfl (pi_range1 (by rfl) T.b_range (pa_cons (pe_callB (id := "len") call_len_seq (by rfl) T.b_len (by decide +kernel) (pa_cons (pv 2) pa_nil)) pa_nil)) (pg_name (i := 13) sc__law_view.nd rfl (Or.inr rfl))
      (pss_one (ps_expr (pe_bm PySem.F.plainAttrs_list PySem.F.slot_list_append PySem.F.type_list_append mt_append (pv 12) (pa_cons (pe_callB (id := "min") (cr_min rfl) (by rfl) T.b_min (by decide +kernel) (pa_cons (pe_lc (own := [("a", 14)]) (g := gName 14) rfl sc__law_view.nd (pi_range1 (by rfl) T.b_range (pa_cons (pe_callB (id := "len") call_len_seq (by rfl) T.b_len (by decide +kernel) (pa_cons (pv 2) pa_nil)) pa_nil)) (blkOk_by (own := [("a", 14)]) (N := ["source", "world", "ways", "requests", "turns", "mode", "state", "post", "names", "pick", "hint", "first", "raw", "b", "a", "number"]) (sc := defScope s__law_view) (by decide +kernel)) (fun _ _ _ _ _ => (pg_name (i := 14) sc__law_view.nd rfl (Or.inl rfl))) (fun _ _ _ _ _ => pts_nil) (fun _ _ _ _ _ => (pe_op op_add (pe_ix (ix_list : IxR _ (rIxL K)) (pv 11) (pv 14) (fun _ _ => rfl)) (pe_ix (ix_list : IxR _ (rIxL K)) (pe_ix (ix_list : IxR _ (rIxL K)) (pv 2) (pv 14) (fun _ _ => rfl)) (pv 13) (fun _ _ => rfl))))) pa_nil)) pa_nil)))))
      (pss_one (ps_ret (pe_tup (pa_cons (pv 6) (pa_cons (pv 7) (pa_cons (pe_callTy (T := "tuple") call_tuple_of (by rfl) T.b_tuple (by decide +kernel) (pa_cons (pe_lc (own := [("number", 15)]) (g := gName 15) rfl sc__law_view.nd (pi_list (pv 12)) (blkOk_by (own := [("number", 15)]) (N := ["source", "world", "ways", "requests", "turns", "mode", "state", "post", "names", "pick", "hint", "first", "raw", "b", "a", "number"]) (sc := defScope s__law_view) (by decide +kernel)) (fun _ _ _ _ _ => (pg_name (i := 15) sc__law_view.nd rfl (Or.inl rfl))) (fun _ _ _ _ _ => pts_nil) (fun _ _ _ _ _ => (pe_op op_sub (pv 15) (pe_callB (id := "min") ((cr_min rfl) : CallR _ _ (rMin K)) (by rfl) T.b_min (by decide +kernel) (pa_cons (pv 12) pa_nil))))) pa_nil)) (pa_cons (pv 10) pa_nil))))))))))))))))), ?_⟩
    refine ⟨_, rfl, wa, _, rfl, SqT.of W.tup, rfl, _, _, rfl, _, _, rfl, _, _, rfl, _, _, rfl, rfl, ?_⟩
    refine ⟨_, rfl, _, rfl, ta, _, rfl, .inr (SqT.of hT.tup), ?_⟩
    rw [lenr]
    refine ⟨d, c, _, rfl, D, by omega, by omega, fun s H1 s0 s1 k1 D1 => ?_⟩
    have W1 := W.keepD D k1
    have T1 := W1.trn
    obtain ⟨was1, x1, x2, x3⟩ := W1.lm.ex
    have hwl1 : (((was1.map V.ref).length : Nat) : Int) = S.n := by rw [List.length_map]; omega
    refine ⟨_, rfl, _, rfl, L, _, rfl, .inl (SqL.of x1), ?_⟩
    rw [hwl1]
    refine ⟨d, c, _, rfl, D1, by omega, by omega, fun pl H2 l0 l1 k2 D2 => ?_⟩
    obtain ⟨pln, rfl⟩ : ∃ p : Nat, pl = p := ⟨pl.toNat, by omega⟩
    have W2 := W1.keepD D1 k2
    have T2 := W2.trn
    obtain ⟨dr, hd, ed, mrow⟩ := T2.row s0 s1
    obtain ⟨r1, r15, rnd, rok⟩ := tok.row _ mrow
    generalize hrow : ts.getD s.toNat [] = row at *
    refine ⟨_, rfl, _, rfl, ta, _, s, _, rfl, rfl, SqT.of T2.tup, hd, ?_⟩
    refine ⟨dr, tkv row, row.map (·.1), rfl, .inl ed, tkv_keys row, by rw [List.length_map]; omega, fun ys l hperm hsort nl => ?_⟩
    have nld := D2.ne nl
    have s3 : Same H2 (upd H2 l (.lst (ys.map V.str))) := same_new nl
    have l3 : (upd H2 l (.lst (ys.map V.str))) l = some (.lst (ys.map V.str)) := upd_same
    generalize upd H2 l (.lst (ys.map V.str)) = H3 at *
    have D3 := D2.same s3
    have yl : ys.length ≤ 15 := by
      have := hperm.length_eq
      rw [List.length_map] at this
      omega
    refine ⟨_, rfl, _, rfl, l, _, rfl, .inl (SqL.of l3), ?_⟩
    rw [List.length_map]
    refine ⟨_, _, rfl, rfl, d, c, _, rfl, D3, by omega, by omega, fun pk H4 p0 p1 k4 D4 => ?_⟩
    have l4 := k4 _ _ nld l3
    have W4 := (W2.same s3).keepD D3 k4
    have k04 : Keep d H H4 := (k1.trans k2).trans ((same_keep s3).trans k4)
    refine ⟨fun σ' G => (∃ hv, σ' = [some (.ref d), some (.ref wa), some (.ref L), some (.ref q), some (.ref ta), some (.str mo), some (.int s), some (.int (pln : Nat)), some (.ref l), some (.int pk), some hv, none, none, none, none, none] ∧ Flat1 hv ∧ hintB mo row hv = true) ∧ G = H4, ?_, ?_⟩
    · refine ⟨_, rfl, rfl, _, rfl, ?_⟩
      refine ite2 (fun g => ?_) (fun g => ⟨⟨.non, rfl, .inl rfl, rfl⟩, rfl⟩)
      have g : (!decide (V.str mo = V.str "none")) = true := g
      rw [dec_str2] at g
      refine ⟨_, rfl, _, _, rfl, rfl, _, rfl, ?_⟩
      refine ite2 (fun g3 => ?_) (fun g3 => ⟨⟨.non, rfl, .inl rfl, rfl⟩, rfl⟩)
      have g3 : 0 < pk := of_decide_eq_true g3
      obtain ⟨z, hz⟩ : ∃ z, ys[(pk - 1).toNat]? = some z := ⟨_, List.getElem?_eq_getElem (by omega)⟩
      have hat : atI (ys.map V.str) (pk - 1) = some (.str z) := by
        have := atI_nat (j := (pk - 1).toNat) (v := V.str z) (show (ys.map V.str)[(pk - 1).toNat]? = _ by rw [List.getElem?_map, hz]; rfl)
        rwa [Int.toNat_of_nonneg (by omega)] at this
      refine ⟨_, rfl, _, rfl, _, _, rfl, rfl, l, _, pk - 1, _, rfl, rfl, SqL.of l4, hat, ⟨.str z, rfl, .inr ⟨z, rfl⟩, ?_⟩, rfl⟩
      show (!decide (mo = "none") && decide (z ∈ row.map (·.1))) = true
      rw [g, decide_eq_true (hperm.mem_iff.mp (List.mem_of_getElem? hz))]; rfl
    rintro σ' G ⟨⟨hv, rfl, fl, hB⟩, rfl⟩
    clear W W1 W2 T1 T2 k1 k2 k4 l3 D3 D1 D2 s3
    obtain ⟨wz, z1, z2, z3⟩ := W4.lm.ex
    have hwl4 : (((wz.map V.ref).length : Nat) : Int) = S.n := by rw [List.length_map]; omega
    refine ⟨_, rfl, L, _, rfl, .inl (SqL.of z1), _, rfl, by rw [hwl4]; omega, by rw [hwl4]; omega, fun F nF => ?_⟩
    rw [hwl4]
    have nFd := D4.ne nF
    have nFc := D4.nc nF
    refine lc_range (lo := 0) (n := S.n.toNat) (fun j H5 => ∃ xs : List Int, H5 F = some (.lst (xs.map V.int)) ∧ xs.length = j ∧ Keep d G H5 ∧ Dice c H5 d)
      ⟨[], upd_same, rfl, same_keep (same_new nF), D4.upd nFd nFc⟩ ?_ ?_
    · rintro j H5 hj ⟨xs, hL, f1, k5, D5⟩
      refine ⟨rfl, ?_⟩
      refine yesT ?_
      refine ⟨_, rfl, d, c, _, rfl, D5, by decide, by decide, fun v H6 v0 v1 k6 D6 => ?_⟩
      refine ⟨_, k6 _ _ nFd hL, ?_, xs ++ [v], ?_, ?_, (k5.trans k6).mut nF, D6.upd nFd nFc⟩
      · rw [List.length_map]; exact small1000 (by omega)
      · rw [upd_same, List.map_append]; rfl
      · rw [List.length_append, f1]; rfl
    rintro H5 ⟨dr', e3, f3, k5, D5⟩
    have W5 := W4.keepD D4 k5
    have k05 := k04.trans k5
    obtain ⟨wy, y1, y2, y3⟩ := W5.lm.ex
    have hwl5 : (((wy.map V.ref).length : Nat) : Int) = S.n := by rw [List.length_map]; omega
    refine ⟨(by show 0 ≤ sizeLine; decide), fun C nC => ?_⟩
    have nCd := D5.ne nC
    have nCc := D5.nc nC
    have sC : Same H5 (upd H5 C (.lst [])) := same_new nC
    refine ⟨_, rfl, L, _, rfl, .inl (SqL.of (sC _ _ y1)), _, rfl, by rw [hwl5]; omega, by rw [hwl5]; omega, ?_⟩
    rw [hwl5]
    refine for_range (lo := 0) (n := S.n.toNat) (fun i σ' H6 => ∃ (o13 : Option V), σ' = [some (.ref d), some (.ref wa), some (.ref L), some (.ref q), some (.ref ta), some (.str mo), some (.int s), some (.int (pln : Nat)), some (.ref l), some (.int pk), some hv, some (.ref F), some (.ref C), o13, none, none] ∧ H6 C = some (.lst (((List.range i).map (clAt S.n.toNat S.ws dr')).map V.int)) ∧ Same H5 H6)
      ⟨none, rfl, upd_same, sC⟩ ?_ ?_
    · rintro b σ' H6 hb ⟨o13, rfl, e4, s4⟩
      rw [Int.zero_add]
      refine ⟨_, rfl, .inl ⟨rfl, _, SqL.of e4⟩, _, rfl, L, _, rfl, .inl (SqL.of (s4 _ _ y1)), _, rfl, by rw [hwl5]; omega, by rw [hwl5]; omega, fun Ed nE => ?_⟩
      rw [hwl5]
      refine lc_range (lo := 0) (n := S.n.toNat) (fun a H7 => H7 Ed = some (.lst (((List.range a).map fun a => dr'.getD a 0 + mat S.ws a b).map V.int)) ∧ Same H6 H7) ⟨upd_same, same_new nE⟩ ?_ ?_
      · rintro a H7 ha ⟨g1, g2⟩
        obtain ⟨wx, hwx⟩ : ∃ b, wy[a]? = some b := ⟨_, List.getElem?_eq_getElem (by omega)⟩
        have s5 := s4.trans g2
        have hdr : (dr'.map V.int)[a]? = some (.int (dr'.getD a 0)) := by rw [List.getElem?_map, getDat 0 (by omega)]; rfl
        have hmb : (rowV S.n.toNat (M a))[b]? = some (.int (mat S.ws a b)) := by rw [rowV_at hb, W5.eq a b ha hb]
        rw [Int.zero_add]
        refine ⟨rfl, ?_⟩
        refine yesT ?_
        refine ⟨_, rfl, _, rfl, F, _, (a : Nat), _, rfl, rfl, SqL.of (s5 _ _ e3), atI_nat hdr, _, rfl, _, rfl, L, _, (a : Nat), .ref wx, rfl, rfl, SqL.of (s5 _ _ y1), atI_nat (by rw [List.getElem?_map, hwx]; rfl), _, rfl, wx, _, (b : Nat), _, rfl, rfl, SqL.of (s5 _ _ (y3 a wx hwx)), atI_nat hmb, _, _, rfl, rfl, ?_⟩
        refine ⟨_, g1, ?_, ?_, same_upd g2 nE⟩
        · rw [List.length_map, List.length_map, List.length_range]; exact small1000 (by omega)
        · rw [upd_same, List.range_succ, List.map_append, List.map_append]; rfl
      · rintro H7 ⟨g1, g2⟩
        refine ⟨Ed, _, rfl, SqL.of g1, (by rw [List.length_map, List.length_range]; omega), fun m hm hle => ?_⟩
        have em : clAt S.n.toNat S.ws dr' b = m := minL_eq hm hle
        refine ⟨C, _, _, rfl, rfl, g2 _ _ e4, ?_, _, rfl, ?_, same_upd (s4.trans g2) nC⟩
        · rw [List.length_map, List.length_map, List.length_range]; exact small1000 (by omega)
        · rw [upd_same, List.range_succ, List.map_append, List.map_append, ← em]; rfl
    · rintro σ' H6 ⟨o13, rfl, e4, s4⟩
      have e4 : H6 C = some (.lst ((clL S.n.toNat S.ws dr').map V.int)) := e4
      have hcl : (clL S.n.toNat S.ws dr').length = S.n.toNat := clL_len
      have okc := closed_ok (dr := dr') met (by omega)
      generalize clL S.n.toNat S.ws dr' = cl at e4 hcl okc
      refine ⟨_, rfl, _, rfl, ?_⟩
      refine ⟨_, rfl, C, rfl, ⟨_, SqL.of e4⟩, fun D3' nD3 => ?_⟩
      refine lc_list (K := K) (a := C) (xs := cl.map V.int) (fun j H7 => H7 D3' = some (.lst (((cl.take j).map fun c => c - minL cl).map V.int)) ∧ Same H6 H7) ⟨upd_same, same_new nD3⟩ (fun j H7 _ h7 => SqL.of (h7.2 _ _ e4)) ?_ ?_
      · rintro j x H7 hj ⟨q1, q2⟩
        obtain ⟨y, hy, rfl⟩ := map_at hj
        refine ⟨rfl, ?_⟩
        refine yesT ?_
        refine ⟨_, rfl, _, rfl, C, _, rfl, SqL.of (q2 _ _ e4), by omega, fun m hm hle => ?_⟩
        have em : minL cl = m := minL_eq hm hle
        subst em
        refine ⟨_, _, rfl, rfl, ?_⟩
        refine ⟨_, q1, ?_, ?_, same_upd q2 nD3⟩
        · rw [List.length_map, List.length_map, List.length_take]; exact small1000 (Nat.le_trans (Nat.min_le_right _ _) (by have := (List.getElem?_eq_some_iff.mp hy).1; omega))
        · rw [upd_same, List.take_add_one, hy, List.map_append, List.map_append]; rfl
      · rintro H7 ⟨q1, q2⟩
        rw [List.length_map, List.take_length] at q1
        refine ⟨D3', _, rfl, .inl ⟨SqL.of q1, fun oa noa => ?_⟩⟩
        have s6 : Same H5 (upd H7 oa (.tup ((cl.map fun c => c - minL cl).map V.int))) := (s4.trans q2).trans (same_new noa)
        have o1 : (upd H7 oa (.tup ((cl.map fun c => c - minL cl).map V.int))) oa = some (.tup ((newOff cl).map V.int)) := upd_same
        generalize upd H7 oa (.tup ((cl.map fun c => c - minL cl).map V.int)) = H8 at *
        refine ⟨_, rfl, (by show 4 ≤ sizeLine; decide), fun va nva => ?_⟩
        have s7 := s6.trans (same_new (p := va) (o := .tup [V.int s, V.int (pln : Nat), V.ref oa, hv]) nva)
        exact k va oa s pln (newOff cl) hv _ (k05.trans (same_keep s7)) (D5.same s7) upd_same (same_new nva _ _ o1) okc s0 s1 l1 fl (by rw [hrow]; exact hB)
end
end Toy

namespace Toy
open PySem PySem.Spec PyProof.Rows L2
local macro_rules | `(tactic| walk_at "hp") => `(tactic| first
  | assumption
  | exact upd_same
  | (refine Eq.trans (upd_ne (by first | assumption | (apply Ne.symm; assumption))) ?_; walk_at "hp"))
local macro_rules | `(tactic| walk_at "side") => `(tactic| first
  | exact .inl ⟨by omega, by omega⟩
  | exact .inr ⟨by omega, by omega⟩
  | exact ⟨by omega, by omega⟩
  | (show _ ≤ _; omega)
  | (show (_ : Int) < _; omega)
  | decide
  | assumption)
local macro_rules | `(tactic| walk_at "r") => `(tactic| first
  | refine ⟨_, rfl, ?_⟩
  | refine ⟨_, _, rfl, rfl, ?_⟩
  | refine ⟨_, _, _, _, rfl, rfl, SqL.of (by walk_at "hp"), rfl, ?_⟩
  | refine ⟨_, _, _, _, rfl, rfl, SqT.of (by walk_at "hp"), rfl, ?_⟩
  | refine ⟨_, _, _, _, rfl, rfl, (by walk_at "hp"), rfl, ?_⟩
  | refine And.intro rfl ?_
  | refine ⟨_, _, rfl, SqT.of (by walk_at "hp"), ?_⟩
  | refine ⟨_, _, rfl, SqL.of (by walk_at "hp"), ?_⟩
  | refine .inl ⟨_, rfl, ?_⟩
  | refine ⟨_, _, rfl, .inl (SqL.of (by walk_at "hp")), ?_⟩
  | refine ⟨_, _, rfl, .inr (SqT.of (by walk_at "hp")), ?_⟩
  | refine ⟨_, _, rfl, .inl ⟨SqL.of (by walk_at "hp"), ?_⟩⟩
  | refine And.intro (.inl ⟨rfl, _, SqL.of (by walk_at "hp")⟩) ?_
  | refine ⟨_, _, _, rfl, rfl, (by walk_at "hp"), ?_⟩
  | refine ⟨_, _, rfl, (by walk_at "hp"), ?_⟩
  | refine And.intro (by walk_at "side") ?_)
local macro_rules | `(tactic| walk_at "rr") => `(tactic| (repeat walk_at "r"))
local macro_rules | `(tactic| walk_at "k") => `(tactic| first
  | refine ite2 (fun _ => ?_) (fun g => absurd rfl g)
  | refine ite2 (fun g => absurd g (by decide)) (fun _ => ?_)
  | refine ite2 (fun _ => ?_) (fun g => absurd (decide_eq_true (by omega)) g)
  | refine ite2 (fun g => absurd (of_decide_eq_true g) (by omega)) (fun _ => ?_)
  | refine ite2 (fun g => (nd_t g (by omega)).elim) (fun _ => ?_)
  | refine ite2 (fun _ => ?_) (fun g => absurd (nd_f g) (by omega)))
local macro_rules | `(tactic| walk_at "rk") => `(tactic| (repeat (first | walk_at "r" | walk_at "k")))
theorem Square.up {n a b : Int} {rows : List (List Int)} (s : Square n a rows) (h : a ≤ b) : Square n b rows := ⟨s.len, fun r m => ⟨(s.row r m).1, fun x hx => ⟨((s.row r m).2 x hx).1, Int.le_trans ((s.row r m).2 x hx).2 h⟩⟩, s.diag⟩
theorem Prices.up {n a b : Int} {row : List (Option Int)} (s : Prices n a row) (h : a ≤ b) : Prices n b row := ⟨s.len, fun x m => ⟨(s.rng x m).1, Int.le_trans (s.rng x m).2 h⟩, s.some⟩
theorem keep_new {d : Addr} {H H1 G : Hp} (nd : H d = none) (s : Same H H1) (k : Keep d H1 G) : Same H G := fun b o e => k b o (fun z => by rw [z, nd] at e; cases e) (s b o e)
theorem cut_mem {xs : List V} {lo hi : Option Int} {x : V} (h : x ∈ cutV xs lo hi) : x ∈ xs := List.mem_of_mem_drop (List.mem_of_mem_take h)
structure Rq5 (n : Int) (rs : List (Str × List (Option Int))) : Prop where
  nd : (rs.map (·.1)).Nodup
  lo : 1 ≤ rs.length
  hi : rs.length ≤ 5
  pr : ∀ p ∈ rs, Prices n 9 p.2 ∧ Name 8 p.1
theorem newSys {C : Addr} {H : Hp} {mv : V} {d : Addr} {rows : List (List Int)} {kvs : List (Key × V)} {rs : List (Str × List (Option Int))} {n : Int} {p dx : Addr} {E : XK} {R : Hp → Prop} (np : H p = none) (ndx : H dx = none)
    (hmv : TupT IntT H mv rows) (sq : Square n 9 rows) (n1 : 1 ≤ n) (n6 : n ≤ 6) (hd : H d = some (.dK kvs)) (hD : DctOf OptT H kvs rs) (rok : Rq5 n rs)
    (k : ∀ S G, SysOk S → S.n = n → S.rows = rows → S.rs.Perm rs → SysAt C G p S → Same H G → R G) : spSystemN C [.ref p, mv, .ref d] (upd (upd H dx (.own p)) p (.ins C dx [])) (fun v G => v = .non ∧ R G) E := by
  have s2 : Same H (upd (upd H dx (.own p)) p (.ins C dx [])) := fun b o e => by
    rw [upd_ne (ne_of_none e np), upd_ne (ne_of_none e ndx)]
    exact e
  refine ⟨p, dx, mv, d, rows, kvs, rs, n, rfl, upd_same, TupT.firm IntT.firm _ _ _ _ (same_tups s2) hmv, sq, n1, n6, s2 _ _ hd, hD.firm OptT.firm (same_tups s2), rok.nd, rok.lo, rok.hi, rok.pr, fun S G q ok en er pm SA nq kp => ⟨rfl, ?_⟩⟩
  obtain ⟨dx', mv', na, wv, kv', h⟩ := SA.ex
  exact k S G ok en er pm ⟨dx', mv', na, wv, q, kv', h⟩ fun b o e => kp b o (ne_of_none e np) (s2 b o e)
theorem newMc {C : Addr} {H : Hp} {ta : Addr} {ds : List Addr} {ts : List (List (Str × Int))} {p dx : Addr} {E : XK} {R : Hp → Prop} (np : H p = none) (ndx : H dx = none) (hT : TurnsAt H ta ds ts) (tok : Turns ts)
    (k : ∀ M G, McOk M → M.ts = ts → McAt C G p M → Same H G → R G) : spMachine C [.ref p, .ref ta] (upd (upd H dx (.own p)) p (.ins C dx [])) (fun v G => v = .non ∧ R G) E := by
  have s2 : Same H (upd (upd H dx (.own p)) p (.ins C dx [])) := fun b o e => by
    rw [upd_ne (ne_of_none e np), upd_ne (ne_of_none e ndx)]
    exact e
  refine ⟨p, dx, ta, ds, ts, rfl, upd_same, hT.same s2, tok, fun M G ok et MA kp => ⟨rfl, ?_⟩⟩
  exact k M G ok et MA fun b o e => kp b o (ne_of_none e np) (s2 b o e)
theorem asks_in {mo : Str} {ts : List (List (Str × Int))} (tok : Turns ts) {s : Int} {hv : V} (s0 : 0 ≤ s) (s1 : s < ts.length) (h : hintB mo (ts.getD s.toNat []) hv = true) : ∀ p ∈ asksOf mo ts s hv, (∃ r ∈ ts, p.1 ∈ r.map (·.1)) ∧ (p.2 = .non ∨ ∃ z, p.2 = .str z ∧ ∃ r ∈ ts, z ∈ r.map (·.1)) := by
  have hm := tok.at s0 s1
  unfold asksOf
  generalize ts.getD s.toNat [] = row at *
  obtain ⟨r1, r15, rnd, rok⟩ := tok.row row hm
  have rin := reqs_in h
  intro p mp
  obtain ⟨z, mz, m2⟩ := List.mem_flatMap.mp mp
  obtain ⟨y, my, rfl⟩ := List.mem_map.mp m2
  refine ⟨⟨row, hm, rin z mz⟩, ?_⟩
  rcases hints_in y my with rfl | ⟨x, rfl, mx⟩
  · exact .inl rfl
  · refine .inr ⟨x, rfl, _, ?_, mx⟩
    obtain ⟨_, pr, mpr, ep, ev⟩ := toOf_val rnd (rin z mz)
    obtain ⟨n8, v0, v1⟩ := rok pr mpr
    rw [ev] at v0 v1
    exact tok.at v0 v1
theorem at3 {x y z : V} {v : Int} (h0 : 0 ≤ v) (h3 : v < 3) : ∃ u, atI [x, y, z] v = some u ∧ (u = x ∨ u = y ∨ u = z) := by
  have : v = 0 ∨ v = 1 ∨ v = 2 := by omega
  rcases this with rfl | rfl | rfl
  · exact ⟨x, rfl, .inl rfl⟩
  · exact ⟨y, rfl, .inr (.inl rfl)⟩
  · exact ⟨z, rfl, .inr (.inr rfl)⟩
/-- what a style answers -/
def PostOf (S : Sys) (pl : Nat) (off : List Int) (row : List (Option Int)) (hh : V) (st : Str) (x : Int) : Prop := ∃ cs pp, CsOf S pl off row hh st cs ∧ IsFst cs pp ∧ (st = "calm" → row.getD pl none = some 0 → x = (pl : Int)) ∧ (¬ (st = "calm" ∧ row.getD pl none = some 0) → x = (pp : Int))
theorem IsFst.uniq {cs : List (Option Int)} {p p' : Nat} (a : IsFst cs p) (b : IsFst cs p') : p = p' := by
  rcases Nat.lt_trichotomy p p' with h | h | h
  · exact absurd a.1 (b.2 p h)
  · exact h
  · exact absurd b.1 (a.2 p' h)
theorem PostOf.ex {S : Sys} {pl : Nat} {off : List Int} {row : List (Option Int)} {hh : V} {st : Str} (ok : SysOk S) {z : Str} (hm : (z, row) ∈ S.rs) (hT : hh = .non ∨ ∃ y later, hh = .str y ∧ (y, later) ∈ S.rs) : ∃ x, PostOf S pl off row hh st x := by
  have pr := (ok.pr _ hm).1
  have prl : row.length = S.n.toNat := by have : (row.length : Int) = S.n := pr.len; omega
  obtain ⟨cs, hC⟩ : ∃ cs, CsOf S pl off row hh st cs := by
    by_cases g : st = "offset"
    · exact ⟨_, .inl ⟨g, rfl⟩⟩
    by_cases g2 : st = "trust"
    · rcases hT with e | ⟨y, later, e, m⟩
      · exact ⟨_, .inr (.inl ⟨g, g2, .inl ⟨e, rfl⟩⟩)⟩
      · exact ⟨_, .inr (.inl ⟨g, g2, .inr ⟨y, later, e, m, rfl⟩⟩)⟩
    · exact ⟨_, .inr (.inr ⟨g, g2, rfl⟩)⟩
  have sc : ∃ x : Int, some x ∈ cs := by
    have n1 := ok.n1
    obtain ⟨x, mx⟩ := pr.some
    obtain ⟨b, hb⟩ := List.getElem?_of_mem mx
    have bl : b < row.length := (List.getElem?_eq_some_iff.mp hb).1
    have ib : (row.getD b none).isSome = true := by rw [List.getD_eq_getElem?_getD, hb]; rfl
    rw [← hC.iff (by omega : b < S.n.toNat)] at ib
    obtain ⟨y, hy⟩ := Option.isSome_iff_exists.mp ib
    have cl := hC.len
    rw [List.getD_eq_getElem?_getD, List.getElem?_eq_getElem (by omega : b < cs.length)] at hy
    have hy : cs[b]'(by omega) = some y := hy
    exact ⟨y, by rw [← hy]; exact List.getElem_mem _⟩
  obtain ⟨pp, hF⟩ := fst_ex sc
  by_cases g : st = "calm" ∧ row.getD pl none = some 0
  · exact ⟨pl, cs, pp, hC, hF, fun _ _ => rfl, fun n => absurd g n⟩
  · exact ⟨pp, cs, pp, hC, hF, fun a b => absurd ⟨a, b⟩ g, fun _ => rfl⟩
theorem PostOf.plain {S : Sys} {pl : Nat} {off : List Int} {row : List (Option Int)} {hh : V} {st : Str} {x : Int} (h : PostOf S pl off row hh st x) (g1 : ¬ st = "offset") (g2 : st = "trust" → hh = .non) : ∃ pp, IsFst (cL S.n.toNat S.ws pl row) pp ∧ (st = "calm" → row.getD pl none = some 0 → x = (pl : Int)) ∧ (¬ (st = "calm" ∧ row.getD pl none = some 0) → x = (pp : Int)) := by
  obtain ⟨cs, pp, hC, hF, h1, h2⟩ := h
  have : cs = cL S.n.toNat S.ws pl row := by
    rcases hC with ⟨e, _⟩ | ⟨_, e, t⟩ | ⟨_, _, e⟩
    · exact absurd e g1
    · rcases t with ⟨_, e2⟩ | ⟨y, _, e2, _⟩
      · exact e2
      · rw [g2 e] at e2; cases e2
    · exact e
  exact ⟨pp, this ▸ hF, h1, h2⟩
theorem postOf_rel {S : Sys} {pl : Nat} {off : List Int} {row : List (Option Int)} {hh : V} {zs : List Str} {ps : List Int} (sub : zs.Sublist styles) (h : Paired (fun st x => PostOf S pl off row hh st x) zs ps) (h4 : ps.length = 4) :
    ∃ p0 p1 p2 p3, ps = [p0, p1, p2, p3] ∧ (row.getD pl none = some 0 → p1 = (pl : Int)) ∧ (¬ row.getD pl none = some 0 → p1 = p0) ∧ (hh = .non → p2 = p0) := by
  have e : zs = styles := sub.eq_of_length (by rw [Paired.length h, h4]; rfl)
  subst e
  unfold styles at h
  cases h with
  | cons a h => cases h with
    | cons b h => cases h with
      | cons c h => cases h with
        | cons d h => cases h with
          | nil =>
            obtain ⟨q0, f0, _, x0⟩ := a.plain (by decide +kernel) (fun e => absurd e (by decide +kernel))
            obtain ⟨q1, f1, y1, x1⟩ := b.plain (by decide +kernel) (fun e => absurd e (by decide +kernel))
            have x0 := x0 (fun e => absurd e.1 (by decide +kernel))
            refine ⟨_, _, _, _, rfl, fun g => y1 rfl g, fun g => ?_, fun g => ?_⟩
            · rw [x1 (fun e => g e.2), x0, f1.uniq f0]
            · obtain ⟨q2, f2, _, x2⟩ := c.plain (by decide +kernel) (fun _ => g)
              rw [x2 (fun e => absurd e.1 (by decide +kernel)), x0, f2.uniq f0]
theorem style_x {CS CM : Addr} {p m va oa ak : Addr} {S : Sys} {M : Mc} {mo st : Str} {s : Int} {pl : Nat} {off : List Int} {hv : V} {z : Str} {hh : V} {row : List (Option Int)} {x : Int} {H : Hp} {Q : VK} {E : XK} (ok : SysOk S) (SA : SysAt CS H p S) (MA : McAt CM H m M) (mok : McOk M) (sub : ∀ z ∈ M.ns, z ∈ S.rs.map (·.1)) (hmo : mo ∈ modes) (hst : st ∈ styles)
    (hva : H va = some (.tup [.int s, .int pl, .ref oa, hv])) (hoa : H oa = some (.tup (off.map V.int))) (okc : OffOk S.n.toNat S.ws off) (s0 : 0 ≤ s) (s1 : s < M.ts.length) (l1 : (pl : Int) < S.n) (fl : Flat1 hv) (hB : hintB mo (M.ts.getD s.toNat []) hv = true) (hak : H ak = some (.tup [.str z, hh])) (ma : (z, hh) ∈ asksOf mo M.ts s hv) (hm : (z, row) ∈ S.rs) (h : PostOf S pl off row hh st x)
    (k : ∀ G, Same H G → Q (.int x) G) : spStylePost CS CM [.ref p, .ref m, .str mo, .str st, .ref va, .ref ak] H Q E := by
  obtain ⟨cs, pp, hC, hF, h1, h2⟩ := h
  exact ⟨p, m, va, oa, ak, S, M, mo, st, s, pl, off, hv, z, hh, row, cs, pp, rfl, ok, SA, MA, mok, sub, hmo, hst, hva, hoa, okc, s0, s1, l1, fl, hB, hak, ma, hm, hC, hF, fun a b G sG => h1 a b ▸ k G sG, fun n G sG => h2 n ▸ k G sG⟩
theorem chosen_x {wa va oa ak : Addr} {S : Sys} {mo : Str} {q L ta : Addr} {kvs : List (Key × V)} {rs : List (Str × List (Option Int))} {W : Nat → Nat → Int} {ds : List Addr} {ts : List (List (Str × Int))} {st : Str} {s : Int} {pl : Nat} {off : List Int} {hv : V} {z : Str} {hh : V} {row : List (Option Int)} {x : Int} {H : Hp} {Q : VK} {E : XK} (ok : SysOk S) (WD : WdAt H wa S mo q L ta kvs rs W ds ts)
    (hva : H va = some (.tup [.int s, .int pl, .ref oa, hv])) (hoa : H oa = some (.tup (off.map V.int))) (ol : off.length = S.n.toNat) (l1 : (pl : Int) < S.n) (hak : H ak = some (.tup [.str z, hh])) (hm : (z, row) ∈ S.rs) (h : PostOf S pl off row hh st x)
    (k : ∀ G, Same H G → Q (.int x) G) : spLawChosen [.ref wa, .str st, .ref va, .ref ak] H Q E := by
  obtain ⟨cs, pp, hC, hF, h1, h2⟩ := h
  exact ⟨wa, va, oa, ak, S, mo, q, L, ta, kvs, rs, W, ds, ts, st, s, pl, off, hv, z, hh, row, cs, pp, rfl, ok, WD, hva, hoa, ol, l1, hak, hm, hC, hF, fun a b G sG => h1 a b ▸ k G sG, fun n G sG => h2 n ▸ k G sG⟩
def spLaw (K : PySem.W.Frag) : Sp := fun vs H Q _ => ∃ (a : Addr) (ns : List Int), vs = [.ref a] ∧ SqL K H a (ns.map V.int) ∧ ns.length ≤ 63 ∧ ∀ H', Q (.bl true) H'
section
variable {P : Program} {w : World} {K : PySem.W.Frag} {mg : Str → Option Value} {base : Heap}
theorem okf_law (T : Top K mg) {f : Addr} {fd : FuncData} (F : Fun K "law" "law" s_law f fd) : FnOk P w K mg base CX0 9 f fd ["script"] (spLaw K) := by
  refine F.ok sc_law (fun vs H Q E h => ?_) (fun cdv A outer s H vs Q E hr h => ?_)
  · obtain ⟨a, ns, rfl, _⟩ := h
    rfl
  · obtain ⟨a, ns, rfl, hS, hlen, k⟩ := h
    obtain ⟨f__law_source, fd__law_source, m__law_source, k__law_source, b__law_source, G__law_source⟩ := ok__law_source (P := P) (w := w) (base := base) T
    have hr__law_source : Room 1 _ := hr.mono (by decide)
    obtain ⟨f__law_cell, fd__law_cell, m__law_cell, k__law_cell, b__law_cell, G__law_cell⟩ := ok__law_cell (P := P) (w := w) (base := base) T
    have hr__law_cell : Room 1 _ := hr.mono (by decide)
    obtain ⟨f__law_draw, fd__law_draw, m__law_draw, k__law_draw, b__law_draw, G__law_draw⟩ := ok__law_draw (P := P) (w := w) (base := base) T
    have hr__law_draw : Room 1 _ := hr.mono (by decide)
    obtain ⟨f__law_moves, fd__law_moves, m__law_moves, k__law_moves, b__law_moves, G__law_moves⟩ := ok__law_moves (P := P) (w := w) (base := base) T
    have hr__law_moves : Room 2 _ := hr.mono (by decide)
    obtain ⟨f__law_requests, fd__law_requests, m__law_requests, k__law_requests, b__law_requests, G__law_requests⟩ := ok__law_requests (P := P) (w := w) (base := base) T
    have hr__law_requests : Room 3 _ := hr.mono (by decide)
    obtain ⟨f__law_turns, fd__law_turns, m__law_turns, k__law_turns, b__law_turns, G__law_turns⟩ := ok__law_turns (P := P) (w := w) (base := base) T
    have hr__law_turns : Room 2 _ := hr.mono (by decide)
    obtain ⟨f_System, fd_System, m_System, M_System, b_System, G_System⟩ := ok_SystemZ_initZ (P := P) (w := w) (base := base) T
    have hr_System : Room 8 _ := hr.mono (by decide)
    obtain ⟨f_Machine, fd_Machine, m_Machine, M_Machine, b_Machine, G_Machine⟩ := ok_MachineZ_initZ (P := P) (w := w) (base := base) T
    have hr_Machine : Room 7 _ := hr.mono (by decide)
    obtain ⟨f__law_copies, fd__law_copies, m__law_copies, k__law_copies, b__law_copies, G__law_copies⟩ := ok__law_copies (P := P) (w := w) (base := base) T
    have hr__law_copies : Room 1 _ := hr.mono (by decide)
    obtain ⟨f__law_ways, fd__law_ways, m__law_ways, k__law_ways, b__law_ways, G__law_ways⟩ := ok__law_ways (P := P) (w := w) (base := base) T
    have hr__law_ways : Room 1 _ := hr.mono (by decide)
    obtain ⟨f__law_view, fd__law_view, m__law_view, k__law_view, b__law_view, G__law_view⟩ := ok__law_view (P := P) (w := w) (base := base) T
    have hr__law_view : Room 2 _ := hr.mono (by decide)
    obtain ⟨f__law_asks, fd__law_asks, m__law_asks, k__law_asks, b__law_asks, G__law_asks⟩ := ok__law_asks (P := P) (w := w) (base := base) T
    have hr__law_asks : Room 1 _ := hr.mono (by decide)
    obtain ⟨f_style_post, fd_style_post, m_style_post, k_style_post, b_style_post, G_style_post⟩ := ok_style_post (P := P) (w := w) (base := base) T
    have hr_style_post : Room 8 _ := hr.mono (by decide)
    obtain ⟨f__law_chosen, fd__law_chosen, m__law_chosen, k__law_chosen, b__law_chosen, G__law_chosen⟩ := ok__law_chosen (P := P) (w := w) (base := base) T
    have hr__law_chosen : Room 3 _ := hr.mono (by decide)
    obtain ⟨f__law_is_integer, fd__law_is_integer, m__law_is_integer, k__law_is_integer, b__law_is_integer, G__law_is_integer⟩ := ok__law_is_integer (P := P) (w := w) (base := base) T
    have hr__law_is_integer : Room 1 _ := hr.mono (by decide)
    obtain ⟨f__law_related, fd__law_related, m__law_related, k__law_related, b__law_related, G__law_related⟩ := ok__law_related (P := P) (w := w) (base := base) T
    have hr__law_related : Room 1 _ := hr.mono (by decide)
    have hu := hu_of hr
    have hu64 := hr.units
    refine ⟨_, (pss_cons (ps_set (i := 1) sc_law.nd rfl (Or.inl rfl) (pe_call G__law_source hr__law_source rfl m__law_source k__law_source b__law_source .nil pass0 (pa_cons (pe_call G__law_cell hr__law_cell rfl m__law_cell k__law_cell b__law_cell .nil pass0 (pa_cons (pv 0) (pa_cons pe_int pa_nil))) pa_nil)))
      (pss_cons (ps_set (i := 2) sc_law.nd rfl (Or.inl rfl) (pe_ix ix_tup (pe_tup (pa_cons pe_str (pa_cons pe_str (pa_cons pe_str pa_nil)))) (pe_call G__law_draw hr__law_draw rfl m__law_draw k__law_draw b__law_draw .nil pass0 (pa_cons (pv 1) (pa_cons pe_int pa_nil))) (fun _ _ => rfl)))
      (pss_cons (ps_set (i := 3) sc_law.nd rfl (Or.inl rfl) (pe_op op_add pe_int (pe_call G__law_draw hr__law_draw rfl m__law_draw k__law_draw b__law_draw .nil pass0 (pa_cons (pv 1) (pa_cons pe_int pa_nil)))))
      (pss_cons (ps_set (i := 4) sc_law.nd rfl (Or.inl rfl) (pe_op op_add pe_int (pe_call G__law_draw hr__law_draw rfl m__law_draw k__law_draw b__law_draw .nil pass0 (pa_cons (pv 1) (pa_cons pe_int pa_nil)))))
      (pss_cons (ps_set (i := 5) sc_law.nd rfl (Or.inl rfl) (pe_ix ix_tup (pe_tup (pa_cons pe_int (pa_cons pe_int (pa_cons pe_int pa_nil)))) (pe_call G__law_draw hr__law_draw rfl m__law_draw k__law_draw b__law_draw .nil pass0 (pa_cons (pv 1) (pa_cons pe_int pa_nil))) (fun _ _ => rfl)))
      (pss_cons (ps_set (i := 6) sc_law.nd rfl (Or.inl rfl) (pe_call G__law_moves hr__law_moves rfl m__law_moves k__law_moves b__law_moves .nil pass0 (pa_cons (pv 1) (pa_cons (pv 3) (pa_cons (pv 5) pa_nil)))))
      (C8.pss_cut (ps_set (i := 7) sc_law.nd rfl (Or.inl rfl) (pe_call G__law_requests hr__law_requests rfl m__law_requests k__law_requests b__law_requests .nil pass0 (pa_cons (pv 1) (pa_cons (pv 3) (pa_cons (pv 4) (pa_cons (pv 5) pa_nil))))))
      (pss_cons (ps_set (i := 1) sc_law.nd rfl (Or.inl rfl) (pe_call G__law_source hr__law_source rfl m__law_source k__law_source b__law_source .nil pass0 (pa_cons (pe_call G__law_cell hr__law_cell rfl m__law_cell k__law_cell b__law_cell .nil pass0 (pa_cons (pv 0) (pa_cons pe_int pa_nil))) pa_nil)))
      (pss_cons (ps_set (i := 8) sc_law.nd rfl (Or.inl rfl) (pe_op op_add pe_int (pe_call G__law_draw hr__law_draw rfl m__law_draw k__law_draw b__law_draw .nil pass0 (pa_cons (pv 1) (pa_cons pe_int pa_nil)))))
      (C8.pss_cut (ps_set (i := 9) sc_law.nd rfl (Or.inl rfl) (pe_call G__law_turns hr__law_turns rfl m__law_turns k__law_turns b__law_turns .nil pass0 (pa_cons (pv 1) (pa_cons (pe_callB (id := "sorted") (call_sortedD rfl) (by rfl) T.b_sorted (by decide +kernel) (pa_cons (pv 7) pa_nil)) (pa_cons (pv 8) pa_nil)))))
      (pss_cons (ps_set (i := 10) sc_law.nd rfl (Or.inl rfl) (pe_make M_System G_System hr_System rfl m_System b_System .nil pass0 (pa_cons (pv 6) (pa_cons (pe_callTy (T := "dict") call_dictD (by rfl) T.b_dict (by decide +kernel) (pa_cons (pv 7) pa_nil)) pa_nil))))
      (pss_cons (ps_set (i := 11) sc_law.nd rfl (Or.inl rfl) (pe_make M_Machine G_Machine hr_Machine rfl m_Machine b_Machine .nil pass0 (pa_cons (pe_call G__law_copies hr__law_copies rfl m__law_copies k__law_copies b__law_copies .nil pass0 (pa_cons (pv 9) pa_nil)) pa_nil)))
      (pss_cons (ps_set (i := 12) sc_law.nd rfl (Or.inl rfl) (pe_tup (pa_cons (pe_call G__law_ways hr__law_ways rfl m__law_ways k__law_ways b__law_ways .nil pass0 (pa_cons (pv 6) pa_nil)) (pa_cons (pv 7) (pa_cons (pv 9) (pa_cons (pv 2) pa_nil))))))
      (C8.pss_cut (ps_set (i := 13) sc_law.nd rfl (Or.inl rfl) (pe_tup (pa_cons pe_str (pa_cons pe_str (pa_cons pe_str (pa_cons pe_str pa_nil))))))
      (pss_cons (ps_for PassesOwn.never rfl (pi_enum (by rfl) T.b_enumerate (pa_cons (pe_op op_cat (pe_lst (pa_cons (pe_call G__law_cell hr__law_cell rfl m__law_cell k__law_cell b__law_cell .nil pass0 (pa_cons (pv 0) (pa_cons pe_int pa_nil))) pa_nil)) (pe_slice sl_list (pv 0) (po_some pe_int) (po_some pe_int))) pa_nil)) (pg_tup rfl (pgs_cons (pg_name (i := 14) sc_law.nd rfl (Or.inl rfl)) (pgs_cons (pg_name (i := 15) sc_law.nd rfl (Or.inl rfl)) pgs_nil)))
      (pss_cons (ps_set (i := 1) sc_law.nd rfl (Or.inl rfl) (pe_call G__law_source hr__law_source rfl m__law_source k__law_source b__law_source .nil pass0 (pa_cons (pv 15) pa_nil)))
      (pss_cons (ps_set (i := 16) sc_law.nd rfl (Or.inl rfl) (pe_call G__law_draw hr__law_draw rfl m__law_draw k__law_draw b__law_draw .nil pass0 (pa_cons (pv 1) (pa_cons pe_int pa_nil))))
      (pss_cons (ps_set (i := 17) sc_law.nd rfl (Or.inl rfl) (pe_call G__law_view hr__law_view rfl m__law_view k__law_view b__law_view .nil pass0 (pa_cons (pv 1) (pa_cons (pv 12) pa_nil))))
      (pss_cons (ps_set (i := 18) sc_law.nd rfl (Or.inl rfl) (pe_call G__law_asks hr__law_asks rfl m__law_asks k__law_asks b__law_asks .nil pass0 (pa_cons (pv 9) (pa_cons (pv 2) (pa_cons (pv 17) pa_nil)))))
      (pss_cons (ps_set (i := 19) sc_law.nd rfl (Or.inl rfl) (pe_ix ix_list (pv 18) (pe_call G__law_draw hr__law_draw rfl m__law_draw k__law_draw b__law_draw .nil pass0 (pa_cons (pv 1) (pa_cons (pe_callB (id := "len") call_len_seq (by rfl) T.b_len (by decide +kernel) (pa_cons (pv 18) pa_nil)) pa_nil))) (fun _ _ => rfl)))
      (C8.pss_cut (ps_set (i := 20) sc_law.nd rfl (Or.inl rfl) (pe_lst pa_nil))
      (pss_cons (ps_for PassesOwn.never rfl (pi_tup (pv 13)) (pg_name (i := 21) sc_law.nd rfl (Or.inl rfl))
      (pss_one (ps_if (PW.pt (pw_or (pt_cmpR op_eq (pe_op op_mod (pv 14) pe_int) pe_int (nomark _)) (pw_or1 (pt_cmpR op_eq (pv 21) (pe_ix ix_tup (pv 13) (pv 16) (fun _ _ => rfl)) (nomark _)))))
      (pss_cons (ps_set (i := 22) sc_law.nd rfl (Or.inl rfl) (pe_call G_style_post hr_style_post rfl m_style_post k_style_post b_style_post .nil pass0 (pa_cons (pv 10) (pa_cons (pv 11) (pa_cons (pv 2) (pa_cons (pv 21) (pa_cons (pv 17) (pa_cons (pv 19) pa_nil))))))))
      (pss_cons (ps_if (PW.pt (pw_or (pt_not (pt_val (pe_call G__law_is_integer hr__law_is_integer rfl m__law_is_integer k__law_is_integer b__law_is_integer .nil pass0 (pa_cons (pv 22) pa_nil)))) (pw_or1 (pt_cmpR (op_neD hu64) (pv 22) (pe_call G__law_chosen hr__law_chosen rfl m__law_chosen k__law_chosen b__law_chosen .nil pass0 (pa_cons (pv 12) (pa_cons (pv 21) (pa_cons (pv 17) (pa_cons (pv 19) pa_nil))))) (nomark _)))))
      (pss_one (ps_ret pe_bl))
      pss_nil)
      (pss_one (ps_expr (pe_bm PySem.F.plainAttrs_list PySem.F.slot_list_append PySem.F.type_list_append mt_append (pv 20) (pa_cons (pv 22) pa_nil))))))
      pss_nil)))
      (pss_one (ps_if (PW.pt (pw_and (pt_cmpR op_eq (pe_callB (id := "len") call_len_seq (by rfl) T.b_len (by decide +kernel) (pa_cons (pv 20) pa_nil)) pe_int (nomark _)) (pw_and1 (pt_not (pt_val (pe_call G__law_related hr__law_related rfl m__law_related k__law_related b__law_related .nil pass0 (pa_cons (pv 20) (pa_cons (pv 12) (pa_cons (pv 17) (pa_cons (pv 19) pa_nil))))))))))
      (pss_one (ps_ret pe_bl))
      pss_nil))))))))))
      (pss_one (ps_ret pe_bl))))))))))))))))), ?_⟩
    refine ⟨_, rfl, a, ns, 0, rfl, hS, fun v0 => ⟨_, rfl, fun d1 H1 s1 nd1 D1 => ?_⟩⟩
    refine ⟨(by show 3 ≤ sizeLine; decide), fun t1 nt1 => ?_⟩
    have e1 : (upd H1 t1 (.tup [.str "none", .str "true", .str "free"])) t1 = some (.tup [.str "none", .str "true", .str "free"]) := upd_same
    have s2 : Same H1 (upd H1 t1 (.tup [.str "none", .str "true", .str "free"])) := same_new nt1
    have D2 := D1.same s2
    have n1d := D1.ne nt1
    generalize upd H1 t1 (.tup [.str "none", .str "true", .str "free"]) = H2 at *
    refine ⟨_, rfl, d1, d1, _, rfl, D2, by decide, by decide, fun v1 H3 a0 a1 k3 D3 => ?_⟩
    obtain ⟨u, hu1, hu2⟩ := at3 (x := V.str "none") (y := V.str "true") (z := V.str "free") a0 a1
    obtain ⟨mo, rfl, hmo⟩ : ∃ mo : Str, u = .str mo ∧ mo ∈ modes := by
      rcases hu2 with rfl | rfl | rfl
      · exact ⟨_, rfl, by simp [modes]⟩
      · exact ⟨_, rfl, by simp [modes]⟩
      · exact ⟨_, rfl, by simp [modes]⟩
    refine ⟨t1, _, v1, _, rfl, rfl, SqT.of (k3 _ _ n1d e1), hu1, ?_⟩
    refine ⟨_, rfl, d1, d1, _, rfl, D3, by decide, by decide, fun v2 H4 b0 b1 k4 D4 => ?_⟩
    refine ⟨_, _, rfl, rfl, ?_⟩
    refine ⟨_, rfl, d1, d1, _, rfl, D4, by decide, by decide, fun v3 H5 c0 c1 k5 D5 => ?_⟩
    refine ⟨_, _, rfl, rfl, ?_⟩
    obtain ⟨n, en⟩ : ∃ n, n = 1 + v2 := ⟨_, rfl⟩
    obtain ⟨many, em⟩ : ∃ n, n = 1 + v3 := ⟨_, rfl⟩
    refine ⟨(by show 3 ≤ sizeLine; decide), fun t2 nt2 => ?_⟩
    have e2 : (upd H5 t2 (.tup [.int 9, .int 2, .int 1])) t2 = some (.tup [.int 9, .int 2, .int 1]) := upd_same
    have s6 : Same H5 (upd H5 t2 (.tup [.int 9, .int 2, .int 1])) := same_new nt2
    have D6 := D5.same s6
    have n2d := D5.ne nt2
    generalize upd H5 t2 (.tup [.int 9, .int 2, .int 1]) = H6 at *
    refine ⟨_, rfl, d1, d1, _, rfl, D6, by decide, by decide, fun v4 H7 g0 g1 k7 D7 => ?_⟩
    obtain ⟨u, hu3, hu4⟩ := at3 (x := V.int 9) (y := V.int 2) (z := V.int 1) g0 g1
    obtain ⟨top, rfl, top0, top9⟩ : ∃ top : Int, u = .int top ∧ 0 ≤ top ∧ top ≤ 9 := by
      rcases hu4 with rfl | rfl | rfl
      · exact ⟨_, rfl, by decide, by decide⟩
      · exact ⟨_, rfl, by decide, by decide⟩
      · exact ⟨_, rfl, by decide, by decide⟩
    refine ⟨t2, _, v4, _, rfl, rfl, SqT.of (k7 _ _ n2d e2), hu3, ?_⟩
    have s17 : Same H H7 := keep_new nd1 s1 ((same_keep s2).trans (k3.trans (k4.trans (k5.trans ((same_keep s6).trans k7)))))
    refine ⟨_, rfl, _, rfl, _, rfl, d1, d1, n, top, by rw [en]; rfl, D7, by omega, by omega, top0, by omega, fun mv rows H8 hmv sq k8 D8 => ?_⟩
    have s08 : Same H H8 := fun b o e => k8 _ _ (fun z => by rw [z, nd1] at e; cases e) (s17 b o e)
    clear k3 k4 k5 k7 k8 D1 D2 D3 D4 D5 D6 D7 s1 s2 s6 s17
    refine ⟨fun σ' G => ∃ (q : Addr) (kvs : List (Key × V)) (rs : List (Str × List (Option Int))), σ' = [some (.ref a), some (.ref d1), some (.str mo), some (.int n), some (.int many), some (.int top), some mv, some (.ref q), none, none, none, none, none, none, none, none, none, none, none, none, none, none, none] ∧ Same H G ∧ TupT IntT G mv rows ∧ G q = some (.dK kvs) ∧ DctOf OptT G kvs rs ∧ (rs.map (·.1)).Nodup ∧ (rs.length : Int) = many ∧ ∀ p ∈ rs, Prices n top p.2 ∧ Name 8 p.1, ?_, ?_⟩
    · refine ⟨_, rfl, _, rfl, _, rfl, _, rfl, d1, d1, n, many, top, by rw [en, em]; rfl, D8, by omega, by omega, by omega, by omega, top0, top9, fun q kvs rs H9 nq hq hRq ndq lenq hpr k9 D9 => ?_⟩
      exact ⟨q, kvs, rs, by rw [en, em]; rfl, fun b o e => k9 _ _ (fun z => by rw [z, nd1] at e; cases e) (s08 b o e), TupT.firm IntT.firm _ _ _ _ (keep_tups k9 D8) hmv, hq, hRq, ndq, lenq, hpr⟩
    rintro σ' H9 ⟨q, kvs, rs, rfl, s09, hmv9, hq, hRq, ndq, lenq, hpr⟩
    clear s08 D8 hmv nd1
    have n1 : 1 ≤ n := by omega
    have n6 : n ≤ 6 := by omega
    have sq9 : Square n 9 rows := sq.up top9
    have rok : Rq5 n rs := ⟨ndq, by omega, by omega, fun p mp => ⟨(hpr p mp).1.up top9, (hpr p mp).2⟩⟩
    refine ⟨_, rfl, a, ns, 1, rfl, Same.seq s09 hS, fun v5 => ⟨_, rfl, fun d2 H10 s10 nd2 D10 => ?_⟩⟩
    refine ⟨_, rfl, d2, d2, _, rfl, D10, by decide, by decide, fun v6 H11 h0 h1 k11 D11 => ?_⟩
    refine ⟨_, _, rfl, rfl, ?_⟩
    have s911 : Same H9 H11 := keep_new nd2 s10 k11
    have s9k : ∀ b o, H9 b = some o → b ≠ d2 := fun b o e z => by rw [z, nd2] at e; cases e
    refine ⟨fun σ' G => ∃ (ta : Addr) (ds : List Addr) (ts : List (List (Str × Int))), σ' = [some (.ref a), some (.ref d2), some (.str mo), some (.int n), some (.int many), some (.int top), some mv, some (.ref q), some (.int (1 + v6)), some (.ref ta), none, none, none, none, none, none, none, none, none, none, none, none, none] ∧ Same H9 G ∧ TurnsAt G ta ds ts ∧ Turns ts ∧ ∀ r ∈ ts, ∀ p ∈ r, p.1 ∈ rs.map (·.1), ?_, ?_⟩
    · refine ⟨_, rfl, _, rfl, q, kvs, rs.map (·.1), rfl, .inl (s911 _ _ hq), dct_keys hRq, by rw [List.length_map]; omega, fun ys l hperm hsort nl => ?_⟩
      have s12 : Same H11 (upd H11 l (.lst (ys.map V.str))) := same_new nl
      have el : (upd H11 l (.lst (ys.map V.str))) l = some (.lst (ys.map V.str)) := upd_same
      have nld := D11.ne nl
      have D12 := D11.same s12
      generalize upd H11 l (.lst (ys.map V.str)) = H12 at *
      have yl : ys.length = rs.length := by rw [hperm.length_eq, List.length_map]
      refine ⟨_, rfl, d2, d2, l, ys, _, rfl, D12, el, nld, hperm.nodup_iff.mpr ndq, by omega, by omega, fun z mz => ?_, by omega, by omega, fun ta ds ts G kG DG hT tok htm sub => ?_⟩
      · obtain ⟨p, mp, rfl⟩ := List.mem_map.mp (hperm.mem_iff.mp mz)
        exact (hpr p mp).2
      · exact ⟨ta, ds, ts, rfl, fun b o e => kG b o (s9k b o e) (s12 _ _ (s911 _ _ e)), hT, tok, fun r mr p mp => hperm.mem_iff.mp (sub r mr p mp)⟩
    rintro σ' H12 ⟨ta, ds, ts, rfl, s912, hT, tok, sub⟩
    clear s911 s10 nd2 D10 D11 k11 s9k
    have s012 := s09.trans s912
    have hq12 := s912 _ _ hq
    have hR12 := hRq.firm OptT.firm (same_tups s912)
    have hmv12 := TupT.firm IntT.firm _ _ _ _ (same_tups s912) hmv9
    clear hq hRq hmv9 s09 s912
    refine ⟨_, rfl, _, rfl, q, kvs, rfl, .inl hq12, fun x1 nx1 => ?_⟩
    have s13 : Same H12 (upd H12 x1 (.dK kvs)) := same_new nx1
    have hx1 : (upd H12 x1 (.dK kvs)) x1 = some (.dK kvs) := upd_same
    generalize upd H12 x1 (.dK kvs) = H13 at *
    intro p dx np ndx ndp
    refine newSys np ndx (TupT.firm IntT.firm _ _ _ _ (same_tups s13) hmv12) sq9 n1 n6 hx1 (hR12.firm OptT.firm (same_tups s13)) rok fun S H14 ok en1 er pm SA s14 => ?_
    have s1214 := s13.trans s14
    clear s13 s14 hx1 nx1 np ndx ndp
    refine ⟨_, rfl, ta, ds, ts, rfl, hT.same s1214, tok, fun t2 es H15 s15 hT2 => ?_⟩
    intro m dx np ndx ndp
    refine newMc np ndx hT2 tok fun M H16 mok emts MA s16 => ?_
    have s1216 := s1214.trans (s15.trans s16)
    have SA16 := SA.same (s15.trans s16)
    clear s15 hT2 np ndx ndp s16 SA
    refine ⟨_, rfl, mv, rows, n, 9, rfl, TupT.firm IntT.firm _ _ _ _ (same_tups s1216) hmv12, sq9, n1, by omega, fun L W H17 s17 hM hLst => ?_⟩
    refine ⟨_, rfl, _, rfl, _, rfl, (by show 4 ≤ sizeLine; decide), fun wa nwa => ?_⟩
    have s18 : Same H17 (upd H17 wa (.tup [.ref L, .ref q, .ref ta, .str mo])) := same_new nwa
    have ewa : (upd H17 wa (.tup [.ref L, .ref q, .ref ta, .str mo])) wa = some (.tup [.ref L, .ref q, .ref ta, .str mo]) := upd_same
    generalize upd H17 wa (.tup [.ref L, .ref q, .ref ta, .str mo]) = H18 at *
    have s1618 := s17.trans s18
    have s1218 := s1216.trans s1618
    have eL : ∀ i j, i < S.n.toNat → j < S.n.toNat → W i j = mat S.ws i j := fun i j hi hj => by
      have hw := ok.wy.least
      rw [er] at hw
      rw [en1] at hi hj hw
      exact hLst.uniq hw hi hj
    have WD : WdAt H18 wa S mo q L ta kvs rs W ds ts := ⟨ewa, by rw [en1]; exact hM.same s18, eL, s1218 _ _ hq12, hR12.firm OptT.firm (same_tups s1218), ndq, pm, hT.same s1218, tok⟩
    have SA18 := SA16.same s1618
    have MA18 := MA.same s1618
    have s018 := s012.trans s1218
    clear SA16 MA s1618 s18 s17 hM ewa nwa s1216 s1218 s1214 hmv12 hR12 hq12 hT s012 hLst
    refine ⟨fun σ' G => ∃ sa, σ' = [some (.ref a), some (.ref d2), some (.str mo), some (.int n), some (.int many), some (.int top), some mv, some (.ref q), some (.int (1 + v6)), some (.ref ta), some (.ref p), some (.ref m), some (.ref wa), some (.ref sa), none, none, none, none, none, none, none, none, none] ∧ Same H18 G ∧ G sa = some (.tup (styles.map V.str)), ?_, ?_⟩
    · refine ⟨(by show 4 ≤ sizeLine; decide), fun sa nsa => ?_⟩
      exact ⟨sa, rfl, same_new nsa, upd_same⟩
    rintro σ' H19 ⟨sa, rfl, s19, hsa⟩
    have s019 := s018.trans s19
    have WD19 := WD.same s19
    have SA19 := SA18.same s19
    have MA19 := MA18.same s19
    clear WD SA18 MA18 s19 s018
    have sub2 : ∀ z r, r ∈ ts → z ∈ r.map (·.1) → ∃ row, (z, row) ∈ S.rs := fun z r mr mz => by
      obtain ⟨y, my, rfl⟩ := List.mem_map.mp mz
      obtain ⟨x, mx, e⟩ := List.mem_map.mp (sub r mr y my)
      exact ⟨x.2, pm.mem_iff.mpr (by rw [← e]; exact mx)⟩
    have sub3 : ∀ z ∈ M.ns, z ∈ S.rs.map (·.1) := fun z mz => by
      have mk := (mok.mem z).mp mz
      rw [emts] at mk
      obtain ⟨r, mr, mz2⟩ := List.mem_flatten.mp mk
      obtain ⟨r0, mr0, rfl⟩ := List.mem_map.mp mr
      obtain ⟨row, mrow⟩ := sub2 z r0 mr0 mz2
      exact List.mem_map.mpr ⟨_, mrow, rfl⟩
    refine ⟨_, rfl, a, ns, 2, rfl, Same.seq s019 hS, fun v8 => ⟨(by show 1 ≤ sizeLine; decide), fun i1 ni1 => ?_⟩⟩
    have s20 : Same H19 (upd H19 i1 (.lst [.int v8])) := same_new ni1
    have e20 : (upd H19 i1 (.lst [.int v8])) i1 = some (.lst [.int v8]) := upd_same
    generalize upd H19 i1 (.lst [.int v8]) = H20 at *
    refine ⟨_, rfl, 3, rfl, 63, rfl, a, _, rfl, Same.seq (s019.trans s20) hS, fun i2 ni2 => ?_⟩
    have clen : (cutV (ns.map V.int) (some 3) (some 63)).length ≤ 63 := by
      have := cutV_length (ns.map V.int) (some 3) (some 63)
      rw [List.length_map] at this
      omega
    have cint : ∀ x ∈ cutV (ns.map V.int) (some 3) (some 63), ∃ c : Int, x = .int c := fun x mx => by
      obtain ⟨c, _, e⟩ := List.mem_map.mp (cut_mem mx)
      exact ⟨c, e.symm⟩
    generalize cutV (ns.map V.int) (some 3) (some 63) = cells at *
    have s21 : Same H20 (upd H20 i2 (.lst cells)) := same_new ni2
    have e21 : (upd H20 i2 (.lst cells)) i2 = some (.lst cells) := upd_same
    generalize upd H20 i2 (.lst cells) = H21 at *
    refine ⟨i1, i2, _, _, rfl, rfl, s21 _ _ e20, e21, Nat.le_of_lt (small1000 (by simp; omega)), fun I nI => ?_⟩
    have s22 : Same H21 (upd H21 I (.lst ([.int v8] ++ cells))) := same_new nI
    have e22 : (upd H21 I (.lst ([.int v8] ++ cells))) I = some (.lst ([.int v8] ++ cells)) := upd_same
    generalize upd H21 I (.lst ([.int v8] ++ cells)) = H22 at *
    have s1922 := s20.trans (s21.trans s22)
    clear s20 s21 s22 e20 e21 ni1 ni2 nI
    have cint2 : ∀ x ∈ [V.int v8] ++ cells, ∃ c : Int, x = .int c := fun x mx => by
      rcases List.mem_append.mp mx with h | h
      · exact ⟨v8, List.mem_singleton.mp h⟩
      · exact cint x h
    refine ⟨I, _, rfl, SqL.of e22, ?_⟩
    refine for_it walk_enum (fun i σ' G => Same H19 G ∧ Same H22 G ∧ ∃ (o1 o14 o15 o16 o17 o18 o19 o20 o21 o22 : Option V), σ' = [some (.ref a), o1, some (.str mo), some (.int n), some (.int many), some (.int top), some mv, some (.ref q), some (.int (1 + v6)), some (.ref ta), some (.ref p), some (.ref m), some (.ref wa), some (.ref sa), o14, o15, o16, o17, o18, o19, o20, o21, o22]) ⟨s1922, Same.refl _, _, _, _, _, _, _, _, _, _, _, rfl⟩ (fun i σ' G _ h => SqL.of (h.2.1 _ _ e22)) ?_ ?_
    · rintro i x σ' G G2 hi ⟨s19G, s22G, o1, o14, o15, o16, o17, o18, o19, o20, o21, o22, rfl⟩ ⟨tp, x', y', rfl, np, rfl, g3, g4⟩
      cases g3
      obtain ⟨c, rfl⟩ := cint2 y' (List.mem_of_getElem? g4)
      have s9 : Same G (upd G tp (.tup [.int (i : Nat), .int c])) := same_new np
      refine ⟨tp, _, rfl, SqT.of upd_same, rfl, _, _, rfl, _, _, rfl, rfl, ?_⟩
      generalize upd G tp (.tup [.int (i : Nat), .int c]) = G1 at *
      have s9 : Same H19 G1 ∧ Same H22 G1 := ⟨s19G.trans s9, s22G.trans s9⟩
      obtain ⟨s19a, s22a⟩ := s9
      clear np g4
      refine ⟨_, rfl, c, rfl, fun d Ga sa1 nd Da => ?_⟩
      refine ⟨_, rfl, d, d, _, rfl, Da, by decide, by decide, fun v9 Gb a9 b9 kb Db => ?_⟩
      refine ⟨_, rfl, _, rfl, d, d, wa, S, mo, q, L, ta, kvs, rs, W, ds, ts, rfl, Db, ok, (WD19.same (s19a.trans sa1)).keepD Da kb, fun va oa s pl off hv Gc kc Dc hva hoa okc s0 s1 l1 fl hB => ?_⟩
      have s1c : Same G1 Gc := keep_new nd sa1 (kb.trans kc)
      have WDc := WD19.same (s19a.trans s1c)
      refine ⟨_, rfl, _, rfl, _, rfl, ta, va, ds, ts, mo, s, pl, .ref oa, hv, rfl, WDc.trn, tok, hva, s0, s1, hB, fun l Gd scd nl hA => ?_⟩
      obtain ⟨us, hl, hus⟩ := hA.ex
      have nld := Dc.ne nl
      obtain ⟨a225, apos, aok⟩ := asks_ok tok s0 s1 hB
      have ain := asks_in tok s0 s1 hB
      have lus : us.length = (asksOf mo ts s hv).length := Paired.length hus
      refine ⟨_, rfl, _, rfl, _, rfl, l, _, rfl, .inl (SqL.of hl), d, d, _, rfl, Dc.same scd, by omega, by omega, fun v10 Ge c10 c11 ke De => ?_⟩
      obtain ⟨j, rfl⟩ : ∃ j : Nat, v10 = j := ⟨v10.toNat, by omega⟩
      obtain ⟨ur, hur⟩ : ∃ u, us[j]? = some u := ⟨_, List.getElem?_eq_getElem (by omega)⟩
      obtain ⟨zh, hzh, ak, rfl, hak⟩ := prd_at1 hus hur
      have mzh : zh ∈ asksOf mo ts s hv := List.mem_of_getElem? hzh
      obtain ⟨z, hh⟩ := zh
      refine ⟨l, us, j, _, rfl, rfl, SqL.of (ke _ _ nld hl), atI_nat hur, ?_⟩
      obtain ⟨⟨r, mr, mz⟩, hhc⟩ := ain _ mzh
      obtain ⟨row, hm⟩ := sub2 z r mr mz
      have hT2 : hh = .non ∨ ∃ y later, hh = .str y ∧ (y, later) ∈ S.rs := by
        rcases hhc with e | ⟨y, e, r2, mr2, my⟩
        · exact .inl e
        · obtain ⟨later, ml⟩ := sub2 y r2 mr2 my
          exact .inr ⟨y, later, e, ml⟩
      have s1e : Same G1 Ge := keep_new nd sa1 (kb.trans (kc.trans ((same_keep scd).trans ke)))
      have Dd := Dc.same scd
      have hva := ke.tup Dd (scd _ _ hva)
      have hoa := ke.tup Dd (scd _ _ hoa)
      have hak := ke.tup Dd hak
      have s19e := s19a.trans s1e
      have s22e := s22a.trans s1e
      have WDe := WD19.same s19e
      have SAe := SA19.same s19e
      have MAe := MA19.same s19e
      have hsae := s19e _ _ hsa
      clear sa1 kb kc scd ke s1c WDc Da Db Dc Dd De hA hus hl s19G s22G s19a s22a nd nl nld s1e hur hzh aok ain
      refine ⟨fun σ' G => ∃ tl, σ' = [some (.ref a), some (.ref d), some (.str mo), some (.int n), some (.int many), some (.int top), some mv, some (.ref q), some (.int (1 + v6)), some (.ref ta), some (.ref p), some (.ref m), some (.ref wa), some (.ref sa), some (.int (i : Nat)), some (.int c), some (.int v9), some (.ref va), some (.ref l), some (.ref ak), some (.ref tl), o21, o22] ∧ Ge tl = none ∧ Same Ge G ∧ G tl = some (.lst []), ?_, ?_⟩
      · refine ⟨(by show 0 ≤ sizeLine; decide), fun tl ntl => ?_⟩
        exact ⟨tl, rfl, ntl, same_new ntl, upd_same⟩
      rintro σ' Gf ⟨tl, rfl, ntl, sef, htl⟩
      refine ⟨_, rfl, sa, rfl, ⟨_, SqT.of (sef _ _ hsae)⟩, ?_⟩
      refine for_tup (K := K) (a := sa) (xs := styles.map V.str) (fun j σ' G => ∃ (o21 o22 : Option V) (zs : List Str) (ps : List Int), σ' = [some (.ref a), some (.ref d), some (.str mo), some (.int n), some (.int many), some (.int top), some mv, some (.ref q), some (.int (1 + v6)), some (.ref ta), some (.ref p), some (.ref m), some (.ref wa), some (.ref sa), some (.int (i : Nat)), some (.int c), some (.int v9), some (.ref va), some (.ref l), some (.ref ak), some (.ref tl), o21, o22] ∧ Same Ge G ∧ G tl = some (.lst (ps.map V.int)) ∧ zs.Sublist (styles.take j) ∧ Paired (fun st x => PostOf S pl off row hh st x) zs ps) ⟨o21, o22, [], [], rfl, sef, htl, List.Sublist.refl _, .nil⟩ (fun j σ' G _ ⟨_, _, _, _, _, h, _⟩ => SqT.of (h _ _ hsae)) ?_ ?_
      · rintro jj x σ' G hj ⟨o21, o22, zs, ps, rfl, seG, htG, sub5, hps⟩
        obtain ⟨sty, hsty, rfl⟩ := map_at hj
        refine ⟨_, rfl, _, _, rfl, rfl, (by show (0 : Int) < 6; decide), rfl, _, rfl, ?_⟩
        have jl : jj < 4 := (List.getElem?_eq_some_iff.mp hsty).1
        have msty : sty ∈ styles := List.mem_of_getElem? hsty
        have tk : styles.take (jj + 1) = styles.take jj ++ [sty] := by rw [List.take_add_one, hsty]; rfl
        have zl : zs.length ≤ 4 := by
          have := sub5.length_le
          rw [List.length_take] at this
          omega
        have pl4 : ps.length ≤ 4 := by rw [← Paired.length hps]; exact zl
        refine ite2 (fun _ => ite2 (fun _ => ?_) (fun g => absurd rfl g)) (fun _ => ?_)
        · skip
          obtain ⟨x, hx⟩ := PostOf.ex (pl := pl) (off := off) (st := sty) ok hm hT2
          refine ⟨_, rfl, _, rfl, _, rfl, _, rfl, _, rfl, _, rfl, ?_⟩
          dsimp only [tNil]
          refine style_x ok (SAe.same seG) (MAe.same seG) mok sub3 hmo msty (seG _ _ hva) (seG _ _ hoa) okc s0 (by rw [emts]; exact s1) l1 fl (by rw [emts]; exact hB) (seG _ _ hak) (by rw [emts]; exact mzh) hm hx fun G2 sG2 => ?_
          have se2 := seG.trans sG2
          refine ⟨_, rfl, _, "int", rfl, rfl, _, rfl, ?_⟩
          refine ite2 (fun g => nomatch g) (fun _ => ?_)
          refine ⟨_, rfl, _, rfl, _, rfl, _, rfl, _, rfl, ?_⟩
          dsimp only [tNil]
          refine chosen_x ok (WDe.same se2) (se2 _ _ hva) (se2 _ _ hoa) okc.len l1 (se2 _ _ hak) hm hx fun G3 sG3 => ?_
          have se3 := se2.trans sG3
          refine ⟨.int x, .int x, .int _, .int _, rfl, rfl, _, rfl, ?_⟩
          rw [show (PyData.int x).eqv (PyData.int x) = true by simp [PyData.eqv]]
          refine ite2 (fun g => nomatch g) (fun _ => ?_)
          have htG3 := sG3 _ _ (sG2 _ _ htG)
          refine ⟨_, rfl, .inl ⟨rfl, _, SqL.of htG3⟩, _, rfl, tl, _, _, rfl, rfl, htG3, ?_, _, _, zs ++ [sty], ps ++ [x], rfl, same_upd se3 ntl, ?_, ?_, Paired.snoc hps hx⟩
          · rw [List.length_map]; exact small1000 (by omega)
          · rw [upd_same, List.map_append]; rfl
          · rw [tk]; exact sub5.append (List.Sublist.refl _)
        · obtain ⟨sv, hsv⟩ : ∃ z, styles[v9.toNat]? = some z := ⟨_, List.getElem?_eq_getElem (by show v9.toNat < 4; omega)⟩
          have hat : atI (styles.map V.str) v9 = some (.str sv) := by
            have := atI_nat (j := v9.toNat) (v := V.str sv) (show (styles.map V.str)[v9.toNat]? = _ by rw [List.getElem?_map, hsv]; rfl)
            rwa [Int.toNat_of_nonneg (by omega)] at this
          refine ⟨_, rfl, _, rfl, _, rfl, sa, _, v9, _, rfl, rfl, SqT.of (seG _ _ hsae), hat, rfl, _, rfl, ?_⟩
          refine ite2 (fun _ => ?_) (fun _ => ?_)
          · skip
            obtain ⟨x, hx⟩ := PostOf.ex (pl := pl) (off := off) (st := sty) ok hm hT2
            refine ⟨_, rfl, _, rfl, _, rfl, _, rfl, _, rfl, _, rfl, ?_⟩
            dsimp only [tNil]
            refine style_x ok (SAe.same seG) (MAe.same seG) mok sub3 hmo msty (seG _ _ hva) (seG _ _ hoa) okc s0 (by rw [emts]; exact s1) l1 fl (by rw [emts]; exact hB) (seG _ _ hak) (by rw [emts]; exact mzh) hm hx fun G2 sG2 => ?_
            have se2 := seG.trans sG2
            refine ⟨_, rfl, _, "int", rfl, rfl, _, rfl, ?_⟩
            refine ite2 (fun g => nomatch g) (fun _ => ?_)
            refine ⟨_, rfl, _, rfl, _, rfl, _, rfl, _, rfl, ?_⟩
            dsimp only [tNil]
            refine chosen_x ok (WDe.same se2) (se2 _ _ hva) (se2 _ _ hoa) okc.len l1 (se2 _ _ hak) hm hx fun G3 sG3 => ?_
            have se3 := se2.trans sG3
            refine ⟨.int x, .int x, .int _, .int _, rfl, rfl, _, rfl, ?_⟩
            rw [show (PyData.int x).eqv (PyData.int x) = true by simp [PyData.eqv]]
            refine ite2 (fun g => nomatch g) (fun _ => ?_)
            have htG3 := sG3 _ _ (sG2 _ _ htG)
            refine ⟨_, rfl, .inl ⟨rfl, _, SqL.of htG3⟩, _, rfl, tl, _, _, rfl, rfl, htG3, ?_, _, _, zs ++ [sty], ps ++ [x], rfl, same_upd se3 ntl, ?_, ?_, Paired.snoc hps hx⟩
            · rw [List.length_map]; exact small1000 (by omega)
            · rw [upd_same, List.map_append]; rfl
            · rw [tk]; exact sub5.append (List.Sublist.refl _)
          · exact ⟨_, _, zs, ps, rfl, seG, htG, by rw [tk]; exact sub5.trans (List.sublist_append_left _ _), hps⟩
      · rintro σ' G ⟨o21, o22, zs, ps, rfl, seG, htG, sub5, hps⟩
        have sub5 : zs.Sublist styles := sub5
        refine ⟨_, rfl, tl, _, rfl, .inl (SqL.of htG), rfl, _, rfl, ?_⟩
        rw [List.length_map]
        refine ite2 (fun g => ?_) (fun _ => ?_)
        · have g := of_decide_eq_true g
          injection g with g
          obtain ⟨p0, p1, p2, p3, rfl, c1, c2, c3⟩ := postOf_rel sub5 hps (by omega)
          refine ⟨_, rfl, _, rfl, _, rfl, _, rfl, ?_⟩
          dsimp only [tNil]
          refine ⟨tl, wa, va, oa, ak, S, mo, q, L, ta, kvs, rs, W, ds, ts, s, pl, hv, z, hh, row, p0, p1, p2, p3, rfl, ok, WDe.same seG, htG, seG _ _ hva, l1, seG _ _ hak, hm, c1, c2, c3, _, rfl, ?_⟩
          refine ite2 (fun g => nomatch g) (fun _ => ?_)
          exact ⟨s19e.trans seG, s22e.trans seG, _, _, _, _, _, _, _, _, _, _, rfl⟩
        · refine ite2 (fun g => nomatch g) (fun _ => ?_)
          exact ⟨s19e.trans seG, s22e.trans seG, _, _, _, _, _, _, _, _, _, _, rfl⟩
    · rintro σ' G ⟨_, _, o1, o14, o15, o16, o17, o18, o19, o20, o21, o22, rfl⟩
      exact k _
end
end Toy

set_option maxHeartbeats 0
namespace Toy
open PySem PySem.Spec PyProof.Rows L2
section
variable {K : PySem.W.Frag} {h : Heap} {mg : Str → Option Value}
theorem fun_of {x qual : Str} {st : Stmt} {f : Addr} {fd : FuncData} (F : FunD K x qual (defArgs st) (defBody st) (defScope st) [] [] f fd) : Fun K x qual st f fd := by
  obtain ⟨oc, od, dV, kV, doc, pm, an, cdv, ct, osl, rfl, lk, hcd, hD, hK⟩ := F.ex
  rcases hD with ⟨_, rfl⟩ | ⟨e, _⟩
  · exact ⟨⟨oc, od, kV, doc, pm, an, cdv, ct, osl, rfl, lk, hcd⟩, F.kp⟩
  · exact absurd rfl e
theorem def_at {x : Str} {st : Stmt} {ps : List Str} (X : K.In h) (G : h.Ns mainGlobals mg) (g : (He.Fa.glo x).ok K = true) (c : ∃ fd, FunD K x x (defArgs st) (defBody st) (defScope st) [] [] (He.ga K x) fd)
    (hb : ∀ (kV doc pm : Value) (an : Option Addr) (cdv ct : Value) (us : List Value), us.length = ps.length → bindArgs (PySem.W.fnOf x x (defArgs st) (defBody st) (defScope st) .none kV doc pm an cdv ct) ⟨us, []⟩ = pure (ps.zip us)) : DefAt K mg x st ps := by
  obtain ⟨fd, F⟩ := c
  exact ⟨_, fd, He.glo_ok X G g, fun_of F, (fun_of F).binds hb⟩
theorem init_at {C qual : Str} {st : Stmt} {ps : List Str} (g : (He.Fa.mkr C).ok K = true) (c : ∃ fd, FunD K "__init__" qual (defArgs st) (defBody st) (defScope st) [] [] (He.ma K (He.ga K C) "__init__") fd)
    (hb : ∀ (kV doc pm : Value) (an : Option Addr) (cdv ct : Value) (us : List Value), us.length = ps.length → bindArgs (PySem.W.fnOf "__init__" qual (defArgs st) (defBody st) (defScope st) .none kV doc pm an cdv ct) ⟨us, []⟩ = pure (ps.zip us)) : ClsInit K (He.ga K C) qual st ps := by
  obtain ⟨fd, F⟩ := c
  exact ⟨_, fd, He.mkr_ok g, fun_of F, (fun_of F).binds hb⟩
theorem meth_at {C m qual : Str} {st : Stmt} {ps : List Str} (g : (He.Fa.meth C m).ok K = true) (c : ∃ fd, FunD K m qual (defArgs st) (defBody st) (defScope st) [] [] (He.ma K (He.ga K C) m) fd)
    (hb : ∀ (kV doc pm : Value) (an : Option Addr) (cdv ct : Value) (us : List Value), us.length = ps.length → bindArgs (PySem.W.fnOf m qual (defArgs st) (defBody st) (defScope st) .none kV doc pm an cdv ct) ⟨us, []⟩ = pure (ps.zip us)) : MethAt K (He.ga K C) m qual st ps := by
  obtain ⟨fd, F⟩ := c
  exact ⟨_, fd, He.meth_ok g, fun_of F, (fun_of F).binds hb⟩
theorem typeFn {a : Addr} (h : PySem.W.isFn K (.ref a) = true) : PySem.W.typeIn K (.ref a) = some (.type "function") := by
  first | exact eq_of_beq h | simpa [PySem.W.isFn] using h
theorem exc_at {x f q : Str} {st : Stmt} (X : K.In h) (G : h.Ns mainGlobals mg) (g : (He.Fa.glo x).ok K = true) (e : oexB K (He.ga K x) = true) (n : (He.Fa.noat x f).ok K = true) (m : (He.Fa.meth x "__init__").ok K = true)
    (c : ∃ fd, FunD K "__init__" q (defArgs st) (defBody st) (defScope st) [] [] (He.ma K (He.ga K x) "__init__") fd)
    (hb : ∀ (kV doc pm : Value) (an : Option Addr) (cdv ct : Value) (us : List Value), us.length = (["self", f] : List Str).length → bindArgs (PySem.W.fnOf "__init__" q (defArgs st) (defBody st) (defScope st) .none kV doc pm an cdv ct) ⟨us, []⟩ = pure ((["self", f] : List Str).zip us)) : ExcAt K mg x (He.ga K x) f st := by
  obtain ⟨fd, F⟩ := c
  have M := He.meth_ok m
  have o := oexB_ok e
  exact ⟨He.glo_ok X G g, o.1, o.2, (He.noat_ok n), ⟨_, fd, q, M.at_, typeFn M.fn, fun_of F, (fun_of F).binds hb⟩⟩
theorem prop_at {C f qual : Str} {p g : Addr} {st : Stmt} (c : ∃ fd, PropOf K (He.ga K C) f p g ∧ FunD K f qual (defArgs st) (defBody st) (defScope st) [] [] g fd)
    (hb : ∀ (kV doc pm : Value) (an : Option Addr) (cdv ct : Value) (us : List Value), us.length = (["self"] : List Str).length → bindArgs (PySem.W.fnOf f qual (defArgs st) (defBody st) (defScope st) .none kV doc pm an cdv ct) ⟨us, []⟩ = pure ((["self"] : List Str).zip us)) : PropAt K (He.ga K C) f qual st := by
  obtain ⟨fd, h, F⟩ := c
  exact ⟨_, _, fd, h, fun_of F, (fun_of F).binds hb⟩
end
/-! the head -/
def top_of {K : PySem.W.Frag} {h : Heap} {mg : Str → Option Value} (X : K.In h) (G : h.Ns mainGlobals mg) (c : He.SaysD hfa hfn K) (ex : HexP K) : Top K mg where
  b_all := He.free_ok X G (c.fact 0 (f := .free "all") rfl)
  b_any := He.free_ok X G (c.fact 1 (f := .free "any") rfl)
  b_bool := He.free_ok X G (c.fact 2 (f := .free "bool") rfl)
  b_dict := He.free_ok X G (c.fact 3 (f := .free "dict") rfl)
  b_enumerate := He.free_ok X G (c.fact 4 (f := .free "enumerate") rfl)
  b_int := He.free_ok X G (c.fact 5 (f := .free "int") rfl)
  b_isinstance := He.free_ok X G (c.fact 6 (f := .free "isinstance") rfl)
  b_len := He.free_ok X G (c.fact 7 (f := .free "len") rfl)
  b_list := He.free_ok X G (c.fact 8 (f := .free "list") rfl)
  b_min := He.free_ok X G (c.fact 9 (f := .free "min") rfl)
  b_range := He.free_ok X G (c.fact 10 (f := .free "range") rfl)
  b_sorted := He.free_ok X G (c.fact 11 (f := .free "sorted") rfl)
  b_str := He.free_ok X G (c.fact 12 (f := .free "str") rfl)
  b_tuple := He.free_ok X G (c.fact 13 (f := .free "tuple") rfl)
  b_zip := He.free_ok X G (c.fact 14 (f := .free "zip") rfl)
  g_LETTERS := He.str_ok X G (c.fact 15 (f := .str "LETTERS" "abcdefghijklmnopqrstuvwxyz") rfl)
  g_MOST_POSTS := He.int_ok X G (c.fact 16 (f := .int "MOST_POSTS" 6) rfl)
  g_MOST_PRICE := He.int_ok X G (c.fact 17 (f := .int "MOST_PRICE" 9) rfl)
  g_MOST_REQUESTS := He.int_ok X G (c.fact 18 (f := .int "MOST_REQUESTS" 5) rfl)
  g_MOST_STATES := He.int_ok X G (c.fact 19 (f := .int "MOST_STATES" 4) rfl)
  d_is_integer := def_at X G (c.fact 20 (f := .glo "is_integer") rfl) (c.def_ 1 (d := hds_is_integer) rfl) (fun _ _ _ _ _ _ us hl => match us, hl with | [_], _ => rfl)
  d_is_natural := def_at X G (c.fact 21 (f := .glo "is_natural") rfl) (c.def_ 2 (d := hds_is_natural) rfl) (fun _ _ _ _ _ _ us hl => match us, hl with | [_], _ => rfl)
  d_is_below := def_at X G (c.fact 22 (f := .glo "is_below") rfl) (c.def_ 3 (d := hds_is_below) rfl) (fun _ _ _ _ _ _ us hl => match us, hl with | [_, _], _ => rfl)
  d_is_row := def_at X G (c.fact 23 (f := .glo "is_row") rfl) (c.def_ 4 (d := hds_is_row) rfl) (fun _ _ _ _ _ _ us hl => match us, hl with | [_], _ => rfl)
  d_is_tuple_of := def_at X G (c.fact 24 (f := .glo "is_tuple_of") rfl) (c.def_ 5 (d := hds_is_tuple_of) rfl) (fun _ _ _ _ _ _ us hl => match us, hl with | [_, _], _ => rfl)
  d_is_name := def_at X G (c.fact 25 (f := .glo "is_name") rfl) (c.def_ 6 (d := hds_is_name) rfl) (fun _ _ _ _ _ _ us hl => match us, hl with | [_], _ => rfl)
  d_is_known := def_at X G (c.fact 26 (f := .glo "is_known") rfl) (c.def_ 7 (d := hds_is_known) rfl) (fun _ _ _ _ _ _ us hl => match us, hl with | [_, _], _ => rfl)
  d_check_suited := def_at X G (c.fact 27 (f := .glo "check_suited") rfl) (c.def_ 8 (d := hds_check_suited) rfl) (fun _ _ _ _ _ _ us hl => match us, hl with | [_, _], _ => rfl)
  d_check_mode := def_at X G (c.fact 28 (f := .glo "check_mode") rfl) (c.def_ 9 (d := hds_check_mode) rfl) (fun _ _ _ _ _ _ us hl => match us, hl with | [_, _, _], _ => rfl)
  d_check_style := def_at X G (c.fact 29 (f := .glo "check_style") rfl) (c.def_ 10 (d := hds_check_style) rfl) (fun _ _ _ _ _ _ us hl => match us, hl with | [_, _, _, _], _ => rfl)
  d__costs := def_at X G (c.fact 30 (f := .glo "_costs") rfl) (c.def_ 11 (d := hds__costs) rfl) (fun _ _ _ _ _ _ us hl => match us, hl with | [_, _, _], _ => rfl)
  d__least := def_at X G (c.fact 31 (f := .glo "_least") rfl) (c.def_ 12 (d := hds__least) rfl) (fun _ _ _ _ _ _ us hl => match us, hl with | [_], _ => rfl)
  d__first_least := def_at X G (c.fact 32 (f := .glo "_first_least") rfl) (c.def_ 13 (d := hds__first_least) rfl) (fun _ _ _ _ _ _ us hl => match us, hl with | [_], _ => rfl)
  d__trusting := def_at X G (c.fact 33 (f := .glo "_trusting") rfl) (c.def_ 14 (d := hds__trusting) rfl) (fun _ _ _ _ _ _ us hl => match us, hl with | [_, _, _], _ => rfl)
  d__offset_costs := def_at X G (c.fact 34 (f := .glo "_offset_costs") rfl) (c.def_ 15 (d := hds__offset_costs) rfl) (fun _ _ _ _ _ _ us hl => match us, hl with | [_, _, _], _ => rfl)
  d_chosen_post := def_at X G (c.fact 35 (f := .glo "chosen_post") rfl) (c.def_ 16 (d := hds_chosen_post) rfl) (fun _ _ _ _ _ _ us hl => match us, hl with | [_, _, _, _], _ => rfl)
  d_is_offsets := def_at X G (c.fact 36 (f := .glo "is_offsets") rfl) (c.def_ 17 (d := hds_is_offsets) rfl) (fun _ _ _ _ _ _ us hl => match us, hl with | [_, _], _ => rfl)
  d_risen := def_at X G (c.fact 37 (f := .glo "risen") rfl) (c.def_ 18 (d := hds_risen) rfl) (fun _ _ _ _ _ _ us hl => match us, hl with | [_, _, _], _ => rfl)
  d_style_post := def_at X G (c.fact 38 (f := .glo "style_post") rfl) (c.def_ 25 (d := hds_style_post) rfl) (fun _ _ _ _ _ _ us hl => match us, hl with | [_, _, _, _, _, _], _ => rfl)
  d__is_turn := def_at X G (c.fact 39 (f := .glo "_is_turn") rfl) (c.def_ 26 (d := hds__is_turn) rfl) (fun _ _ _ _ _ _ us hl => match us, hl with | [_, _], _ => rfl)
  d__is_turns := def_at X G (c.fact 40 (f := .glo "_is_turns") rfl) (c.def_ 27 (d := hds__is_turns) rfl) (fun _ _ _ _ _ _ us hl => match us, hl with | [_], _ => rfl)
  d__is_price := def_at X G (c.fact 41 (f := .glo "_is_price") rfl) (c.def_ 29 (d := hds__is_price) rfl) (fun _ _ _ _ _ _ us hl => match us, hl with | [_], _ => rfl)
  d_is_moves := def_at X G (c.fact 42 (f := .glo "is_moves") rfl) (c.def_ 30 (d := hds_is_moves) rfl) (fun _ _ _ _ _ _ us hl => match us, hl with | [_], _ => rfl)
  d__is_prices := def_at X G (c.fact 43 (f := .glo "_is_prices") rfl) (c.def_ 31 (d := hds__is_prices) rfl) (fun _ _ _ _ _ _ us hl => match us, hl with | [_, _], _ => rfl)
  d__is_requests := def_at X G (c.fact 44 (f := .glo "_is_requests") rfl) (c.def_ 32 (d := hds__is_requests) rfl) (fun _ _ _ _ _ _ us hl => match us, hl with | [_, _], _ => rfl)
  d_least_ways := def_at X G (c.fact 45 (f := .glo "least_ways") rfl) (c.def_ 33 (d := hds_least_ways) rfl) (fun _ _ _ _ _ _ us hl => match us, hl with | [_], _ => rfl)
  d__law_cell := def_at X G (c.fact 46 (f := .glo "_law_cell") rfl) (c.def_ 36 (d := hds__law_cell) rfl) (fun _ _ _ _ _ _ us hl => match us, hl with | [_, _], _ => rfl)
  d__law_source := def_at X G (c.fact 47 (f := .glo "_law_source") rfl) (c.def_ 37 (d := hds__law_source) rfl) (fun _ _ _ _ _ _ us hl => match us, hl with | [_], _ => rfl)
  d__law_draw := def_at X G (c.fact 48 (f := .glo "_law_draw") rfl) (c.def_ 38 (d := hds__law_draw) rfl) (fun _ _ _ _ _ _ us hl => match us, hl with | [_, _], _ => rfl)
  d__law_name := def_at X G (c.fact 49 (f := .glo "_law_name") rfl) (c.def_ 39 (d := hds__law_name) rfl) (fun _ _ _ _ _ _ us hl => match us, hl with | [_, _], _ => rfl)
  d__law_moves := def_at X G (c.fact 50 (f := .glo "_law_moves") rfl) (c.def_ 40 (d := hds__law_moves) rfl) (fun _ _ _ _ _ _ us hl => match us, hl with | [_, _, _], _ => rfl)
  d__law_requests := def_at X G (c.fact 51 (f := .glo "_law_requests") rfl) (c.def_ 41 (d := hds__law_requests) rfl) (fun _ _ _ _ _ _ us hl => match us, hl with | [_, _, _, _], _ => rfl)
  d__law_turns := def_at X G (c.fact 52 (f := .glo "_law_turns") rfl) (c.def_ 42 (d := hds__law_turns) rfl) (fun _ _ _ _ _ _ us hl => match us, hl with | [_, _, _], _ => rfl)
  d__law_copies := def_at X G (c.fact 53 (f := .glo "_law_copies") rfl) (c.def_ 43 (d := hds__law_copies) rfl) (fun _ _ _ _ _ _ us hl => match us, hl with | [_], _ => rfl)
  d__law_is_integer := def_at X G (c.fact 54 (f := .glo "_law_is_integer") rfl) (c.def_ 44 (d := hds__law_is_integer) rfl) (fun _ _ _ _ _ _ us hl => match us, hl with | [_], _ => rfl)
  d__law_ways := def_at X G (c.fact 55 (f := .glo "_law_ways") rfl) (c.def_ 45 (d := hds__law_ways) rfl) (fun _ _ _ _ _ _ us hl => match us, hl with | [_], _ => rfl)
  d__law_after := def_at X G (c.fact 56 (f := .glo "_law_after") rfl) (c.def_ 46 (d := hds__law_after) rfl) (fun _ _ _ _ _ _ us hl => match us, hl with | [_, _, _], _ => rfl)
  d__law_asks := def_at X G (c.fact 57 (f := .glo "_law_asks") rfl) (c.def_ 47 (d := hds__law_asks) rfl) (fun _ _ _ _ _ _ us hl => match us, hl with | [_, _, _], _ => rfl)
  d__law_serving := def_at X G (c.fact 58 (f := .glo "_law_serving") rfl) (c.def_ 48 (d := hds__law_serving) rfl) (fun _ _ _ _ _ _ us hl => match us, hl with | [_], _ => rfl)
  d__law_number := def_at X G (c.fact 59 (f := .glo "_law_number") rfl) (c.def_ 49 (d := hds__law_number) rfl) (fun _ _ _ _ _ _ us hl => match us, hl with | [_, _, _, _, _], _ => rfl)
  d__law_chosen := def_at X G (c.fact 60 (f := .glo "_law_chosen") rfl) (c.def_ 50 (d := hds__law_chosen) rfl) (fun _ _ _ _ _ _ us hl => match us, hl with | [_, _, _, _], _ => rfl)
  d__law_view := def_at X G (c.fact 61 (f := .glo "_law_view") rfl) (c.def_ 51 (d := hds__law_view) rfl) (fun _ _ _ _ _ _ us hl => match us, hl with | [_, _], _ => rfl)
  d__law_related := def_at X G (c.fact 62 (f := .glo "_law_related") rfl) (c.def_ 52 (d := hds__law_related) rfl) (fun _ _ _ _ _ _ us hl => match us, hl with | [_, _, _, _], _ => rfl)
  d_law := def_at X G (c.fact 63 (f := .glo "law") rfl) (c.def_ 53 (d := hds_law) rfl) (fun _ _ _ _ _ _ us hl => match us, hl with | [_], _ => rfl)
  c_NoRequest := He.ga K "NoRequest"
  x_NoRequest := exc_at X G (c.fact 64 (f := .glo "NoRequest") rfl) (hflag ex 0 (x := "NoRequest") rfl) (c.fact 65 (f := .noat "NoRequest" "name") rfl) (c.fact 66 (f := .meth "NoRequest" "__init__") rfl) (c.def_ 0 (d := hds_NoRequestZ_initZ) rfl) (fun _ _ _ _ _ _ us hl => match us, hl with | [_, _], _ => rfl)
  c_MODES := He.ga K "MODES"
  mg_MODES := He.glo_ok X G (c.fact 67 (f := .glo "MODES") rfl)
  c_STYLES := He.ga K "STYLES"
  mg_STYLES := He.glo_ok X G (c.fact 68 (f := .glo "STYLES") rfl)
  c_System := He.ga K "System"
  cl_System := He.cls_ok (c.fact 69 (f := .cls "System") rfl)
  mg_System := He.glo_ok X G (c.fact 70 (f := .glo "System") rfl)
  na_System_moves := He.noat_ok (c.fact 71 (f := .noat "System" "moves") rfl)
  na_System_posts := He.noat_ok (c.fact 72 (f := .noat "System" "posts") rfl)
  na_System_names := He.noat_ok (c.fact 73 (f := .noat "System" "names") rfl)
  na_System_ways := He.noat_ok (c.fact 74 (f := .noat "System" "ways") rfl)
  na_System__requests := He.noat_ok (c.fact 75 (f := .noat "System" "_requests") rfl)
  i_System := init_at (c.fact 76 (f := .mkr "System") rfl) (c.def_ 34 (d := hds_SystemZ_initZ) rfl) (fun _ _ _ _ _ _ us hl => match us, hl with | [_, _, _], _ => rfl)
  m_System_prices := meth_at (c.fact 77 (f := .meth "System" "prices") rfl) (c.def_ 35 (d := hds_System_prices) rfl) (fun _ _ _ _ _ _ us hl => match us, hl with | [_, _], _ => rfl)
  c_Machine := He.ga K "Machine"
  cl_Machine := He.cls_ok (c.fact 78 (f := .cls "Machine") rfl)
  mg_Machine := He.glo_ok X G (c.fact 79 (f := .glo "Machine") rfl)
  na_Machine_names := He.noat_ok (c.fact 80 (f := .noat "Machine" "names") rfl)
  na_Machine_states := He.noat_ok (c.fact 81 (f := .noat "Machine" "states") rfl)
  na_Machine__turns := He.noat_ok (c.fact 82 (f := .noat "Machine" "_turns") rfl)
  i_Machine := init_at (c.fact 83 (f := .mkr "Machine") rfl) (c.def_ 28 (d := hds_MachineZ_initZ) rfl) (fun _ _ _ _ _ _ us hl => match us, hl with | [_, _], _ => rfl)
  p_Machine_turns := prop_at (ex.prop 0 (q := hpr0) rfl) (fun _ _ _ _ _ _ us hl => match us, hl with | [_], _ => rfl)
  c_Steps := He.ga K "Steps"
  cl_Steps := He.cls_ok (c.fact 84 (f := .cls "Steps") rfl)
  mg_Steps := He.glo_ok X G (c.fact 85 (f := .glo "Steps") rfl)
  na_Steps_system := He.noat_ok (c.fact 86 (f := .noat "Steps" "system") rfl)
  na_Steps_mode := He.noat_ok (c.fact 87 (f := .noat "Steps" "mode") rfl)
  na_Steps__turns := He.noat_ok (c.fact 88 (f := .noat "Steps" "_turns") rfl)
  na_Steps__risen := He.noat_ok (c.fact 89 (f := .noat "Steps" "_risen") rfl)
  i_Steps := init_at (c.fact 90 (f := .mkr "Steps") rfl) (c.def_ 19 (d := hds_StepsZ_initZ) rfl) (fun _ _ _ _ _ _ us hl => match us, hl with | [_, _, _, _], _ => rfl)
  m_Steps_is_view := meth_at (c.fact 91 (f := .meth "Steps" "is_view") rfl) (c.def_ 20 (d := hds_Steps_is_view) rfl) (fun _ _ _ _ _ _ us hl => match us, hl with | [_, _], _ => rfl)
  m_Steps__is_hint := meth_at (c.fact 92 (f := .meth "Steps" "_is_hint") rfl) (c.def_ 21 (d := hds_StepsZis_hint) rfl) (fun _ _ _ _ _ _ us hl => match us, hl with | [_, _, _], _ => rfl)
  m_Steps__hints := meth_at (c.fact 93 (f := .meth "Steps" "_hints") rfl) (c.def_ 22 (d := hds_StepsZhints) rfl) (fun _ _ _ _ _ _ us hl => match us, hl with | [_, _], _ => rfl)
  m_Steps_asks_at := meth_at (c.fact 94 (f := .meth "Steps" "asks_at") rfl) (c.def_ 23 (d := hds_Steps_asks_at) rfl) (fun _ _ _ _ _ _ us hl => match us, hl with | [_, _], _ => rfl)
  m_Steps_risen_by := meth_at (c.fact 95 (f := .meth "Steps" "risen_by") rfl) (c.def_ 24 (d := hds_Steps_risen_by) rfl) (fun _ _ _ _ _ _ us hl => match us, hl with | [_, _, _], _ => rfl)
  tp_MODES := He.tupB_ok (hflagF0 ex)
  tp_STYLES := He.tupB_ok (hflagF1 ex)
theorem facts {P : Program} {w : World} {K : PySem.W.Frag} {h : Heap} {mg : Str → Option Value} {f : Addr} (X : K.In h) (G : h.Ns mainGlobals mg) (hlw : mg ("law" : Str) = some (.ref f)) (c : He.SaysD hfa hfn K) (ex : HexP K) :
    ∃ fd : FuncData, (∀ (s : Shared) (v : Value), BindsTo s fd ⟨[v], []⟩ [("script", v)]) ∧ ∀ base : Heap, K.In base → base.Ns mainGlobals mg → FnOk P w K mg base CX0 9 f fd ["script"] (spLaw K) := by
  obtain ⟨fd, F⟩ := c.def_ 53 (d := hds_law) rfl
  have e := hlw.symm.trans (He.glo_ok X G (c.fact 63 (f := .glo "law") rfl))
  cases e
  have b := FunD.bindsA (ps := ["script"]) F fun _ _ _ _ _ _ us hl => match us, hl with | [_], _ => rfl
  exact ⟨fd, fun s v => b s [v] rfl, fun base _ _ => okf_law (top_of X G c ex) (fun_of F)⟩
end Toy
open PySem PySem.W PySem.Calls PyProof.Rows
theorem PySem.Challenge.cw_hintslie_k55_posts_of_styles_holds : PySem.Challenge.rw_hintslie_k55_posts_of_styles.Holds := by
  w_on; o_law
  refine HandSHeadRun.head_any (r := OpenLaw.row PySem.Challenge.rw_hintslie_k55_posts_of_styles) (q := view (OpenLaw.row PySem.Challenge.rw_hintslie_k55_posts_of_styles).prog [74]) (H := Toy.hhk) (ob := Toy.hob) (M := 6000) (loose := Toy.hnames) (d := HandSHeadRun.topDef (OpenLaw.row PySem.Challenge.rw_hintslie_k55_posts_of_styles).prog 74) (kwd := []) Toy.hob_eq
    (by kernel_rfl) (fun s => by kernel_rfl) Toy.hrun (by kernel_rfl) (by kernel_rfl) (by kernel_rfl) (by rfl) (by first | assumption | decide +kernel) (by decide +kernel) ⟨rfl, rfl, rfl, rfl, rfl, by decide +kernel⟩ ?hw ?hc
  case hw => w_witness2
  case hc =>
    refine L2.walk_ofE (l := PySem.Challenge.rw_hintslie_k55_posts_of_styles) (n := 63) (k := 9) (x := "script") (CX := L2.CX0) rfl (by decide) (by kernel_rfl) ⟨rfl, by decide, by decide⟩ ?F (fun _ _ _ _ z => z)
    intro w mg fa h Y G hmg0
    obtain ⟨K, KX, c, ex⟩ := Y
    have hmg : mg ("law" : PySem.Str) = some (.ref fa) := by
      have e : (HandSHeadRun.topDef (OpenLaw.row PySem.Challenge.rw_hintslie_k55_posts_of_styles).prog 74).name = ("law" : PySem.Str) := by kernel_rfl
      rw [← e]
      exact hmg0
    obtain ⟨fd, hb, hF⟩ := Toy.facts (P := (PySem.Challenge.rw_hintslie_k55_posts_of_styles).prog) (w := w) KX G hmg c ex
    exact ⟨K, fd, Toy.spLaw K, KX, hb, fun H a ns hl _ hS => ⟨a, ns, rfl, hS, hl, fun _ => rfl⟩, hF⟩

