import PyProof.Rows.All
import Wide.All
import OpenK.AllK
import Wide.FinOn
import HandS.ForMost
import HandS.Wide
import HandS.Codes
import HandS.SetFor
import HandS.IsInst
import KE.GoesMore
import KE.GoesEnum
import HandS.Walk
import KE.DataMinMax
import KE.GoesRev
import KE.SortData
import HandS.More
import HandS.Style
import HandS.Rev
import HandS.TupMul
import HandS.DictComp
import HandS.Sort
import HandS.Comp
import HandS.Zip
import HandS.ForExc
import HandS.ExcInit
import HandS.ExcField
import HandS.TryMany
import HandS.HeadHook1
import HandS.HeadHook2
import HandS.HeadEnd
import HandS.ExcIs
import HandS.ExcValue
import KE.KExcIs
import KE.KEqDict
import PyProof.NeKinds
import PySem.Challenge.RW_hintslie_k17_errors_kinds_and_fields
import HandS.Defaults
import HandS.Head0
import HandS.Head1
import HandS.Head2
set_option Elab.async false
set_option linter.all false
set_option maxRecDepth 100000
set_option maxHeartbeats 4000000
namespace Toy
open PySem PySem.Spec PyProof.Rows L2
section
variable {P : Program} {w : World} {K : PySem.W.Frag} {mg : Str → Option Value} {base : Heap}
structure DefAt (K : PySem.W.Frag) (mg : Str → Option Value) (x : Str) (st : Stmt) (ps : List Str) : Prop where
  h : ∃ (f : Addr) (fd : FuncData), mg x = some (.ref f) ∧ Fun K x x st f fd ∧ Binds K fd ps []
/-- what a caller has of a def -/
def Ok (P : Program) (w : World) (K : PySem.W.Frag) (mg : Str → Option Value) (base : Heap) (k : Nat) (x : Str) (ps : List Str) (sp : Sp) : Prop :=
  ∃ (f : Addr) (fd : FuncData), mg x = some (.ref f) ∧ PySem.W.keepIn K (.ref f) = true ∧ Binds K fd ps [] ∧ FnOk P w K mg base CX0 k f fd ps sp
theorem ok_of {x : Str} {st : Stmt} {N ps : List Str} {k : Nat} {sp : Sp} (D : DefAt K mg x st ps) (S : FnScope N ps (defScope st)) (len : ∀ vs H Q E, sp vs H Q E → vs.length = ps.length)
    (hbody : ∀ (f : Addr) (cdv : Value) (A : Around) (outer : List Env) (s : Shared) (H : Hp) (vs : List V) (Q : VK) (E : XK), Room k (A.deeper (envOfC x (defScope st) s.heap.objs.size f cdv)) → sp vs H Q E →
      ∃ t, PSs (cxOf CX0 P w K mg base N x (defScope st) f cdv A outer s H E).nox (defBody st) t ∧ t { nx := fun _ H' => Q .non H', rt := Q } (start N vs) H) : Ok P w K mg base (k + 1) x ps sp := by
  obtain ⟨f, fd, m, F, b⟩ := D.h
  exact ⟨f, fd, m, F.kp, b, F.ok S len fun cdv A outer s H vs Q E hr h => hbody f cdv A outer s H vs Q E hr h⟩
structure ClsInit (K : PySem.W.Frag) (C : Addr) (qual : Str) (st : Stmt) (ps : List Str) : Prop where
  h : ∃ (f : Addr) (fd : FuncData), Mk K C f ∧ Fun K "__init__" qual st f fd ∧ Binds K fd ps []
structure MethAt (K : PySem.W.Frag) (C : Addr) (m qual : Str) (st : Stmt) (ps : List Str) : Prop where
  h : ∃ (f : Addr) (fd : FuncData), Meth K C m f ∧ Fun K m qual st f fd ∧ Binds K fd ps []
def OkI (P : Program) (w : World) (K : PySem.W.Frag) (mg : Str → Option Value) (base : Heap) (CX : CXT) (k : Nat) (x : Str) (C : Addr) (ps : List Str) (sp : Sp) : Prop :=
  ∃ (f : Addr) (fd : FuncData), mg x = some (.ref C) ∧ Mk K C f ∧ Binds K fd ps [] ∧ FnOk P w K mg base CX k f fd ps sp
def OkM (P : Program) (w : World) (K : PySem.W.Frag) (mg : Str → Option Value) (base : Heap) (CX : CXT) (k : Nat) (C : Addr) (m : Str) (ps : List Str) (sp : Sp) : Prop :=
  ∃ (f : Addr) (fd : FuncData), Meth K C m f ∧ Binds K fd ps [] ∧ FnOk P w K mg base CX k f fd ps sp
theorem okI_of {x qual : Str} {C : Addr} {st : Stmt} {N ps : List Str} {k : Nat} {sp : Sp} (hm : mg x = some (.ref C)) (D : ClsInit K C qual st ps) (S : FnScope N ps (defScope st)) (len : ∀ vs H Q E, sp vs H Q E → vs.length = ps.length)
    (hbody : ∀ (f : Addr) (cdv : Value) (A : Around) (outer : List Env) (s : Shared) (H : Hp) (vs : List V) (Q : VK) (E : XK), Room k (A.deeper (envOfC qual (defScope st) s.heap.objs.size f cdv)) → sp vs H Q E →
      ∃ t, PSs (cxOf CX0 P w K mg base N qual (defScope st) f cdv A outer s H E).nox (defBody st) t ∧ t { nx := fun _ H' => Q .non H', rt := Q } (start N vs) H) : OkI P w K mg base CX0 (k + 1) x C ps sp := by
  obtain ⟨f, fd, M, F, b⟩ := D.h
  exact ⟨f, fd, hm, M, b, F.ok S len fun cdv A outer s H vs Q E hr h => hbody f cdv A outer s H vs Q E hr h⟩
theorem okM_of {m qual : Str} {C : Addr} {st : Stmt} {N ps : List Str} {k : Nat} {sp : Sp} (D : MethAt K C m qual st ps) (S : FnScope N ps (defScope st)) (len : ∀ vs H Q E, sp vs H Q E → vs.length = ps.length)
    (hbody : ∀ (f : Addr) (cdv : Value) (A : Around) (outer : List Env) (s : Shared) (H : Hp) (vs : List V) (Q : VK) (E : XK), Room k (A.deeper (envOfC qual (defScope st) s.heap.objs.size f cdv)) → sp vs H Q E →
      ∃ t, PSs (cxOf CX0 P w K mg base N qual (defScope st) f cdv A outer s H E).nox (defBody st) t ∧ t { nx := fun _ H' => Q .non H', rt := Q } (start N vs) H) : OkM P w K mg base CX0 (k + 1) C m ps sp := by
  obtain ⟨f, fd, M, F, b⟩ := D.h
  exact ⟨f, fd, M, b, F.ok S len fun cdv A outer s H vs Q E hr h => hbody f cdv A outer s H vs Q E hr h⟩
end
/-! heaps that keep all but one object -/
def Keep (d : Addr) (H H' : Hp) : Prop := ∀ b o, b ≠ d → H b = some o → H' b = some o
theorem Keep.refl (d : Addr) (H : Hp) : Keep d H H := fun _ _ _ h => h
theorem Keep.trans {d : Addr} {H H1 H2 : Hp} (a : Keep d H H1) (b : Keep d H1 H2) : Keep d H H2 := fun c o n h => b c o n (a c o n h)
theorem Keep.same {d : Addr} {H H1 H2 : Hp} (a : Keep d H H1) (b : Same H1 H2) : Keep d H H2 := fun c o n h => b c o (a c o n h)
theorem same_keep {d : Addr} {H H1 : Hp} (a : Same H H1) : Keep d H H1 := fun c o n h => a c o h
theorem Keep.free {d l : Addr} {H H' : Hp} (e : Keep d H H') (n : l ≠ d) (h : H' l = none) : H l = none := by
  cases q : H l with
  | none => rfl
  | some o => rw [e l o n q] at h; cases h
theorem same_new {H : Hp} {p : Addr} {o : HO} (h : H p = none) : Same H (upd H p o) := fun b u e => by
  rw [upd_ne (ne_of_none e h)]; exact e
theorem Keep.upd {d : Addr} {H : Hp} {o : HO} : Keep d H (upd H d o) := fun b u n e => by
  rw [upd_ne n]; exact e
theorem yesT {σ : L2.St} {H : Hp} {A B : Hp → Prop} (h : A H) : tYes σ H (fun b H3 => if b = true then A H3 else B H3) := by
  show (fun b H3 => if b = true then A H3 else B H3) true H
  exact iteT h
/-! the dice: the list at d, the cells at c -/
structure Dice (c : Addr) (H : Hp) (d : Addr) : Prop where
  ex : ∃ (cells : List Int) (i b s t : Int), H d = some (.lst [.ref c, .int i, .int b, .int s, .int t]) ∧ H c = some (.lst (cells.map V.int)) ∧ (∀ x ∈ cells, 0 ≤ x) ∧ 0 ≤ i ∧ 0 ≤ b ∧ 0 ≤ s ∧ s < 2147483647 ∧ 0 ≤ t
section
variable {H H' : Hp} {d c p : Addr} {o : HO}
theorem Dice.some (D : Dice c H d) : ∃ o, H d = some o := by
  obtain ⟨cells, i, b, s, t, h, _⟩ := D.ex
  exact ⟨_, h⟩
theorem Dice.same (D : Dice c H d) (e : Same H H') : Dice c H' d := by
  obtain ⟨cells, i, b, s, t, h, hc, r⟩ := D.ex
  exact ⟨cells, i, b, s, t, e _ _ h, e _ _ hc, r⟩
theorem Dice.ne (D : Dice c H d) (h : H p = none) : p ≠ d := by
  obtain ⟨o, e⟩ := D.some
  intro z; subst z; rw [e] at h; cases h
theorem Dice.nc (D : Dice c H d) (h : H p = none) : p ≠ c := by
  obtain ⟨cells, i, b, s, t, e, hc, r⟩ := D.ex
  intro z; subst z; rw [hc] at h; cases h
theorem Dice.upd (D : Dice c H d) (n : p ≠ d) (m : p ≠ c) : Dice c (upd H p o) d := by
  obtain ⟨cells, i, b, s, t, e, hc, r⟩ := D.ex
  exact ⟨cells, i, b, s, t, (upd_ne n.symm).trans e, (upd_ne m.symm).trans hc, r⟩
theorem Dice.tup {xs : List V} (D : Dice c H d) (h : H p = .some (.tup xs)) : p ≠ d := by
  obtain ⟨cells, i, b, s, t, e, _⟩ := D.ex
  exact ne_of h e (by intro z; cases z)
theorem Dice.dK {xs : List (Key × V)} (D : Dice c H d) (h : H p = .some (.dK xs)) : p ≠ d := by
  obtain ⟨cells, i, b, s, t, e, _⟩ := D.ex
  exact ne_of h e (by intro z; cases z)
theorem Keep.tup {xs : List V} (k : Keep d H H') (D : Dice c H d) (h : H p = .some (.tup xs)) : H' p = .some (.tup xs) := k _ _ (D.tup h) h
theorem Keep.mut (k : Keep d H H') (h : H p = none) : Keep d H (L2.upd H' p o) := fun b u n e => by
  rw [upd_ne (ne_of_none e h)]; exact k b u n e
end
def spDice (K : PySem.W.Frag) : Sp := fun vs H Q _ => ∃ (a : Addr) (ns : List Int), vs = [.ref a] ∧ SqL K H a (ns.map V.int) ∧ ns.length ≤ 63 ∧
  ∀ d c H', Same H H' → H d = none → H c = none → Dice c H' d → Q (.ref d) H'
def spDraw : Sp := fun vs H Q _ => ∃ (d c : Addr) (n : Int), vs = [.ref d, .int n] ∧ Dice c H d ∧ 0 < n ∧ n.natAbs < 2 ^ 100 ∧
  ∀ v H', 0 ≤ v → v < n → Keep d H H' → Dice c H' d → Q (.int v) H'
/-! words -/
def abc : Str := "abcdefghijklmnopqrstuvwxyz"
structure Low (z : Str) : Prop where
  c : ∀ x ∈ z.cps.toList, 97 ≤ x ∧ x ≤ 122
structure Name (m : Int) (z : Str) : Prop where
  lo : 1 ≤ z.length
  hi : (z.length : Int) ≤ m
  low : Low z
theorem abc_at : ∀ i : Nat, i < 26 → ∃ c, abc.cps[i]? = some c ∧ 97 ≤ c ∧ c ≤ 122 := by
  have h : ∀ i : _root_.Fin 26, ∃ c, abc.cps[i.val]? = some c ∧ 97 ≤ c ∧ c ≤ 122 := by
    have e : abc.cps = #[97,98,99,100,101,102,103,104,105,106,107,108,109,110,111,112,113,114,115,116,117,118,119,120,121,122] := by decide +kernel
    intro i
    refine ⟨97 + i.val, ?_, by omega, by omega⟩
    rw [e]
    revert i
    decide
  exact fun i hi => h ⟨i, hi⟩
theorem abc_len : abc.length = 26 := by decide +kernel
theorem Low.app {z : Str} {c : Nat} (h : Low z) (a : 97 ≤ c) (b : c ≤ 122) : Low (z ++ ⟨#[c]⟩) := ⟨fun x hx => by
  have e : (z ++ (⟨#[c]⟩ : Str)).cps = z.cps ++ #[c] := rfl
  rw [e, Array.toList_append] at hx
  rcases List.mem_append.mp hx with q | q
  · exact h.c x q
  · rw [List.mem_singleton.mp q]; exact ⟨a, b⟩⟩
theorem len_app (z : Str) (c : Nat) : (z ++ (⟨#[c]⟩ : Str)).length = z.length + 1 := PySem.Str.length_append z ⟨#[c]⟩
def spWord : Sp := fun vs H Q _ => ∃ (d c : Addr) (n : Int), vs = [.ref d, .int n] ∧ Dice c H d ∧ 0 < n ∧ n ≤ 1000 ∧
  ∀ z H', Name n z → Keep d H H' → Dice c H' d → Q (.str z) H'
end Toy

namespace Toy
open PySem PySem.Spec PyProof.Rows L2
/-! pairs of lists -/
theorem prd_at1 {α β : Type} {F : α → β → Prop} : ∀ {xs : List α} {ys : List β} {i : Nat} {x : α}, Paired F xs ys → xs[i]? = some x → ∃ y, ys[i]? = some y ∧ F x y
  | _, _, _, _, .nil, e => by simp at e
  | _, _, 0, _, .cons r _, e => by simp at e; subst e; exact ⟨_, rfl, r⟩
  | _, _, i + 1, x, .cons _ t, e => by
    obtain ⟨y, h1, h2⟩ := prd_at1 (i := i) (x := x) t (by simpa using e)
    exact ⟨y, by simpa using h1, h2⟩
theorem prd_at2 {α β : Type} {F : α → β → Prop} : ∀ {xs : List α} {ys : List β} {i : Nat} {y : β}, Paired F xs ys → ys[i]? = some y → ∃ x, xs[i]? = some x ∧ F x y
  | _, _, _, _, .nil, e => by simp at e
  | _, _, 0, _, .cons r _, e => by simp at e; subst e; exact ⟨_, rfl, r⟩
  | _, _, i + 1, x, .cons _ t, e => by
    obtain ⟨y, h1, h2⟩ := prd_at2 (i := i) (y := x) t (by simpa using e)
    exact ⟨y, by simpa using h1, h2⟩
theorem prd_imp {α β : Type} {F G : α → β → Prop} : ∀ {xs : List α} {ys : List β}, Paired F xs ys → (∀ a b, F a b → G a b) → Paired G xs ys
  | _, _, .nil, _ => .nil
  | _, _, .cons r t, f => .cons (f _ _ r) (prd_imp t f)
theorem prd_len {α β : Type} {F : α → β → Prop} {xs : List α} {ys : List β} (h : Paired F xs ys) : xs.length = ys.length := PySem.Paired.length h
/-! what stands: tuples of ints, of ints or None, tuples of these, dicts of these -/
def vO : Option Int → V
  | some i => .int i
  | none => .non
def IntT (H : Hp) (v : V) (xs : List Int) : Prop := ∃ a, v = .ref a ∧ H a = some (.tup (xs.map V.int))
def OptT (H : Hp) (v : V) (xs : List (Option Int)) : Prop := ∃ a, v = .ref a ∧ H a = some (.tup (xs.map vO))
def TupT {α : Type} (R : Hp → V → α → Prop) (H : Hp) (v : V) (xs : List α) : Prop := ∃ a vs, v = .ref a ∧ H a = some (.tup vs) ∧ Paired (R H) vs xs
/-- what Keep and Same keep -/
def Firm {α : Type} (R : Hp → V → α → Prop) : Prop := ∀ (H H' : Hp) v x, (∀ a xs, H a = some (.tup xs) → H' a = some (.tup xs)) → R H v x → R H' v x
theorem same_tups {H H' : Hp} (k : Same H H') : ∀ a xs, H a = some (.tup xs) → H' a = some (.tup xs) := fun _ _ h => k _ _ h
theorem keep_tups {c d : Addr} {H H' : Hp} (k : Keep d H H') (D : Dice c H d) : ∀ a xs, H a = some (.tup xs) → H' a = some (.tup xs) := fun _ _ h => k.tup D h
theorem IntT.firm : Firm IntT := fun _ _ _ _ k ⟨a, e, h⟩ => ⟨a, e, k _ _ h⟩
theorem OptT.firm : Firm OptT := fun _ _ _ _ k ⟨a, e, h⟩ => ⟨a, e, k _ _ h⟩
theorem TupT.firm {α : Type} {R : Hp → V → α → Prop} (f : Firm R) : Firm (TupT R) := fun H H' _ _ k ⟨a, vs, e, h, p⟩ => ⟨a, vs, e, k _ _ h, prd_imp p fun x y r => f _ _ x y k r⟩
/-- a dict of texts to such -/
def DctOf {α : Type} (R : Hp → V → α → Prop) (H : Hp) (kvs : List (Key × V)) (rs : List (Str × α)) : Prop := Paired (fun (kv : Key × V) (p : Str × α) => kv.1 = .inr p.1 ∧ R H kv.2 p.2) kvs rs
theorem DctOf.firm {α : Type} {R : Hp → V → α → Prop} (f : Firm R) {H H' : Hp} {kvs : List (Key × V)} {rs : List (Str × α)} (k : ∀ a xs, H a = some (.tup xs) → H' a = some (.tup xs)) (h : DctOf R H kvs rs) : DctOf R H' kvs rs :=
  prd_imp h fun x y r => ⟨r.1, f H H' _ _ k r.2⟩
theorem dct_none {α : Type} {R : Hp → V → α → Prop} {H : Hp} {z : Str} : ∀ {kvs : List (Key × V)} {rs : List (Str × α)}, DctOf R H kvs rs → ¬ z ∈ rs.map (·.1) → valV kvs (.inr z : Key) = none
  | _, _, .nil, _ => rfl
  | kv :: kvs, p :: rs, .cons r t, h => by
    have e : ¬ kv.1 = (.inr z : Key) := fun q => h (by
      rw [r.1] at q; cases q
      exact List.mem_cons_self)
    rw [valV_neg e]
    exact dct_none t fun m => h (List.mem_cons_of_mem _ m)
theorem dct_some {α : Type} {R : Hp → V → α → Prop} {H : Hp} {z : Str} {x : α} : ∀ {kvs : List (Key × V)} {rs : List (Str × α)}, DctOf R H kvs rs → (rs.map (·.1)).Nodup → (z, x) ∈ rs → ∃ v, valV kvs (.inr z : Key) = some v ∧ R H v x
  | _, _, .nil, _, h => by cases h
  | kv :: kvs, p :: rs, .cons r t, nd, h => by
    rw [List.map_cons] at nd
    obtain ⟨n1, n2⟩ := List.nodup_cons.mp nd
    rcases List.mem_cons.mp h with e | h
    · subst e
      exact ⟨kv.2, valV_pos r.1, r.2⟩
    · have e : ¬ kv.1 = (.inr z : Key) := fun q => n1 (by
        rw [r.1] at q
        have q : p.1 = z := Sum.inr.inj q
        rw [q]
        exact List.mem_map.mpr ⟨(z, x), h, rfl⟩)
      rw [valV_neg e]
      exact dct_some t n2 h
theorem dct_len {α : Type} {R : Hp → V → α → Prop} {H : Hp} {kvs : List (Key × V)} {rs : List (Str × α)} (h : DctOf R H kvs rs) : kvs.length = rs.length := prd_len h
/-! in, count -/
theorem inV_str (z : Str) : ∀ zs : List Str, inV (.str z) (zs.map V.str) = decide (z ∈ zs)
  | [] => rfl
  | y :: zs => by
    have ih := inV_str z zs
    unfold inV at ih ⊢
    rw [List.map_cons, List.any_cons, ih]
    show ((y == z) || decide (z ∈ zs)) = decide (z ∈ y :: zs)
    by_cases e : y = z
    · subst e; simp
    · have e' : ¬ z = y := fun q => e q.symm
      simp [e, e']
theorem flat_str (zs : List Str) : (zs.map V.str).all flatV = true := by
  rw [List.all_eq_true]; intro x hx; obtain ⟨z, _, rfl⟩ := List.mem_map.mp hx; rfl
theorem flat_vO (zs : List (Option Int)) : (zs.map vO).all flatV = true := by
  rw [List.all_eq_true]; intro x hx; obtain ⟨z, _, rfl⟩ := List.mem_map.mp hx; cases z <;> rfl
theorem count_eqU {x : V} : ∀ {xs : List V} {us : List Value}, Vals xs us → xs.all flatV = true → us.countP (eqU x) = xs.countP fun y => eqV y x
  | _, _, .nil, _ => rfl
  | y :: xs, u :: us, .cons r t, f => by
    rw [List.all_cons, Bool.and_eq_true] at f
    rw [List.countP_cons, List.countP_cons, eqU_of r f.1, count_eqU t f.2]
section
variable {X : Cx}
def rCntV (K : PySem.W.Frag) : V → List V → Hp → VK → Prop := fun x xs H Q => ∃ (p : Addr) (ys : List V) (k : V), x = .ref p ∧ xs = [k] ∧ SqL K H p ys ∧ ys.all flatV = true ∧ flatV k = true ∧ Q (.int ((ys.countP fun y => eqV y k) : Nat)) H
theorem mt_countV : MtR X "list.count" (rCntV X.K) := by
  intro pins s σ H x xs v us Q I rx rxs h
  obtain ⟨p, ys, k, rfl, rfl, hs, fs, fk, q⟩ := h
  cases rx
  obtain ⟨u, rfl, ru⟩ := rxs.one
  obtain ⟨its, rv, ⟨⟨cls, dd, data, sl⟩, n, ho, hc, hdn, hd⟩, hlen⟩ := I.list hs
  simp only at hc hd
  subst hc hd
  refine call_meets PySem.F.slot_list_count ⟨_, ho, rfl⟩ PySem.F.entry_list_count (PySem.F.args_list_count_2 _ _)
    (SeqAt.list_countAt p its.toArray n dd sl u (eqU k)) ⟨ho, fun y hy => mem_eqAt ru fk rv fs y (by simpa using hy), ?_⟩
  have ec : its.toArray.toList.countP (eqU k) = ys.countP fun y => eqV y k := count_eqU rv fs
  refine ⟨.int ((ys.countP fun y => eqV y k) : Nat), H, I.tok _, ⟨s.toks, ?_⟩, q⟩
  rw [ec]
end
theorem cnt_non : ∀ zs : List (Option Int), ((zs.map vO).countP fun y => eqV y .non) = zs.countP fun y => y.isNone
  | [] => rfl
  | z :: zs => by
    rw [List.map_cons, List.countP_cons, List.countP_cons, cnt_non zs]
    cases z <;> rfl
/-! what the drawing defs promise -/
def spNames : Sp := fun vs H Q _ => ∃ (d c : Addr) (n m : Int), vs = [.ref d, .int n, .int m] ∧ Dice c H d ∧ 0 < n ∧ n ≤ 1000 ∧ 0 < m ∧ m ≤ 1000 ∧
  ∀ (l : Addr) (zs : List Str) (H' : Hp), H l = none → H' l = some (.lst (zs.map V.str)) → zs.Nodup → 1 ≤ zs.length → (zs.length : Int) ≤ n → (∀ z ∈ zs, Name m z) → Keep d H H' → Dice c H' d → Q (.ref l) H'
structure Square (n top : Int) (rows : List (List Int)) : Prop where
  len : (rows.length : Int) = n
  row : ∀ r ∈ rows, (r.length : Int) = n ∧ ∀ x ∈ r, 0 ≤ x ∧ x ≤ top
  diag : ∀ (i : Nat) r, rows[i]? = some r → r[i]? = some 0
def spMoves : Sp := fun vs H Q _ => ∃ (d c : Addr) (n top : Int), vs = [.ref d, .int n, .int top] ∧ Dice c H d ∧ 0 < n ∧ n ≤ 1000 ∧ 0 ≤ top ∧ top ≤ 1000 ∧
  ∀ v rows H', TupT IntT H' v rows → Square n top rows → Keep d H H' → Dice c H' d → Q v H'
structure Prices (n top : Int) (row : List (Option Int)) : Prop where
  len : (row.length : Int) = n
  rng : ∀ x, some x ∈ row → 0 ≤ x ∧ x ≤ top
  some : ∃ x, some x ∈ row
def spPrices : Sp := fun vs H Q _ => ∃ (d c : Addr) (n top : Int), vs = [.ref d, .int n, .int top] ∧ Dice c H d ∧ 0 < n ∧ n ≤ 1000 ∧ 0 ≤ top ∧ top ≤ 1000 ∧
  ∀ v row H', OptT H' v row → Prices n top row → Keep d H H' → Dice c H' d → Q v H'
def spRequests (K : PySem.W.Frag) : Sp := fun vs H Q _ => ∃ (d c l : Addr) (zs : List Str) (n top : Int), vs = [.ref d, .ref l, .int n, .int top] ∧ Dice c H d ∧ H l = some (.lst (zs.map V.str)) ∧ zs.length ≤ 1000 ∧ l ≠ d ∧ zs.Nodup ∧ 0 < n ∧ n ≤ 1000 ∧ 0 ≤ top ∧ top ≤ 1000 ∧
  ∀ p kvs rs H', H p = none → H' p = some (.dK kvs) → DctOf OptT H' kvs rs → rs.map (·.1) = zs → (∀ q ∈ rs, Prices n top q.2) → Keep d H H' → Dice c H' d → Q (.ref p) H'
end Toy

namespace Toy
open PySem PySem.Spec PyProof.Rows L2
/-! enumerate of a tuple -/
set_option maxHeartbeats 2000000 in
theorem meets_enum1 {v : Value} {o : Obj} {G : Heap → Prop} (B : Begins v o G) :
    Meets (Builtin.«enumerate.__new__» ⟨[.type "enumerate", v], []⟩) (fun _ R s => G s.heap ∧
      R (.ok (.ret (.ref (s.heap.push o).objs.size))) { s with heap := (s.heap.push o).push { cls := .type "enumerate", data := .fields #[.none, .bool false, .ref s.heap.objs.size, rawInt 0, .none, .none] } }) :=
  .of_wp fun prog w A R s h => by
    obtain ⟨hp, g, d, tk, os⟩ := s
    obtain ⟨h1, h⟩ := h
    have hsub := sub_enumerate
    have qB : ∀ {A' : Around} {E : Value → Shared → Prop} {Q : Value → Shared → Prop}, Q (.ref hp.objs.size) ⟨hp.push o, g, d, tk, os⟩ → wpAny (model prog w) A' (pyIter v) Q E ⟨hp, g, d, tk, os⟩ :=
      fun z => B.iter prog w _ _ ⟨hp, g, d, tk, os⟩ _ h1 z
    wp_walk using qB
    refine wpAny_stack_any fun st => wpAny_pure ?_
    split
    · rename_i c _ _ _ _ _
      cases (c == Value.type "enumerate")
      all_goals (wp_walk using qB; exact ⟨_, rfl, h⟩)
    · wp_walk using qB
      exact ⟨_, rfl, h⟩
section
variable {prog : Program} {w : World} {A : Around} {E : Value → Shared → Prop} {s : Shared}
theorem enum1 {v : Value} {o : Obj} {G : Heap → Prop} {Q : Value → Shared → Prop} (B : Begins v o G) (h1 : G s.heap)
    (h : ∀ h', IsEnum h' (s.heap.objs.size + 1) s.heap.objs.size 0 .none → h'.get? s.heap.objs.size = some o → (∀ b u, s.heap.get? b = some u → h'.get? b = some u) → Q (.ref (s.heap.objs.size + 1)) { s with heap := h' }) :
    wpAny (model prog w) A (call (.type "enumerate") [v]) Q E s := by
  refine callType_new F.called_enumerate (by decide) (F.typeCall_enumerate_1 _) (F.newCall_enumerate_1 _) (fun ob => F.args_object_init_2 ob _) F.entry_enumerate_new (meets_enum1 B) ⟨h1, ?_⟩
  have hz : (s.heap.push o).objs.size = s.heap.objs.size + 1 := Heap.size_push ..
  show _ ∧ _
  rw [hz]
  have he : IsEnum ((s.heap.push o).push { cls := .type "enumerate", data := .fields #[.none, .bool false, .ref s.heap.objs.size, rawInt 0, .none, .none] }) (s.heap.objs.size + 1) s.heap.objs.size 0 .none := by
    have q := Heap.get?_push_size (s.heap.push o) (o := { cls := .type "enumerate", data := .fields #[.none, .bool false, .ref s.heap.objs.size, rawInt 0, .none, .none] }) rfl
    rw [hz] at q
    exact q
  exact ⟨⟨_, he, rfl⟩, h _ he (Heap.get?_push_of_some _ (Heap.get?_push_size _ B.free)) fun b u x => Heap.get?_push_of_some _ (Heap.get?_push_of_some _ x)⟩
end
def ItEt (K : PySem.W.Frag) (a : Addr) : It :=
  ⟨fun i H => ∃ (xs : List V) (x : V), SqT K H a xs ∧ xs[i]? = some x, fun i H v H' => ∃ T x, v = .ref T ∧ H T = none ∧ H' = upd H T (.tup [.int (i : Nat), x]) ∧ ∀ xs, SqT K H a xs → xs[i]? = some x, fun i H => ∃ xs : List V, SqT K H a xs ∧ xs.length = i⟩
theorem turn_enumT {P : Program} {w : World} {K : PySem.W.Frag} {elts : List Expr} {kk : Nat} {tpos : Pos} (a e it : Addr) :
    Turn P w K (.Tuple elts kk tpos) (ItEt K a) [e, it] e (fun i h => (∃ old, IsEnum h e it ((i : Nat) : Int) old) ∧ h.IsTupleIter it a i ∧ e ≠ it ∧ a ≠ it ∧ a ≠ e) where
  mem := by simp
  obj := fun i h st b hb => by
    obtain ⟨⟨old, he⟩, ⟨o, ho, hc, hd⟩, _⟩ := st
    rcases (by simpa using hb : b = e ∨ b = it) with z | z
    · rw [z]; exact ⟨_, he, fun v q => nomatch q⟩
    · rw [z]; exact ⟨o, ho, fun v q => by rw [hd] at q; cases q⟩
  keep := fun i h h' st k => by
    obtain ⟨⟨old, he⟩, hi, hne⟩ := st
    exact ⟨⟨old, k e (by simp) _ he⟩, hi.at fun o q => k it (by simp) o q, hne⟩
  item := by
    intro X hP hw hK hc i pins s σ H E I hf st hg
    subst hP hw hK
    obtain ⟨⟨old, he⟩, hit, hne, hai, hae⟩ := st
    obtain ⟨xs, x, hq, hx⟩ := hg
    obtain ⟨its, rv, p, hz⟩ := I.tuple hq
    obtain ⟨u, hu, ru⟩ := rv.get hx
    have hel : e < s.heap.objs.size := Heap.lt_size he
    have hil : it < s.heap.objs.size := by obtain ⟨_, q, _⟩ := hit; exact Heap.lt_size q
    have hlt : i < its.toArray.size := by
      rw [List.size_toArray]; exact (List.getElem?_eq_some_iff.mp hu).1
    have hh : X.A.in1.handled = none := I.ok.hd hc
    refine wpAny_pyNext_enum_itemD (Draws.tuple (prog := X.prog) (w := X.w) hh it a hai its.toArray) he ⟨hit, p⟩ hlt hne (by simp [hne, Ne.symm hae]) fun u' h' tk hP ho hst hT hsz hk => ?_
    have eu : u' = u := by
      have hP : its.toArray[i]? = some u' := hP
      rw [List.getElem?_toArray, hu] at hP
      exact (Option.some.inj hP).symm
    subst eu
    refine ⟨_, rfl, wpAny_letOwnedTupleGo_enum (s := { s with heap := h', toks := tk + 1 }) ho fun h'' he' sb => ?_⟩
    have hT2 : h''.get? s.heap.objs.size = some { cls := .type "tuple", data := .seq #[.int i tk, u'] } := (sb.2 _ (Nat.ne_of_gt hel)).trans hT
    have new : ObjOk X.prog X.w (upd H s.heap.objs.size (.tup [.int (i : Nat), x])) h'' s.heap.objs.size (.tup [.int (i : Nat), x]) :=
      ⟨(by show 2 ≤ sizeLine; decide), [.int i tk, u'], .cons ⟨_, rfl⟩ (.cons ru .nil), ⟨_, hT2, rfl, _, rfl⟩⟩
    have I1 : Inv X pins σ (upd H s.heap.objs.size (.tup [.int (i : Nat), x])) { s with heap := h'', toks := tk + 1 } :=
      I.turnedNew (ch := [e, it]) (fun b ob hb q => (sb.2 b (fun z => hb (by simp [z]))).trans (hk b ob (fun z => hb (by simp [z])) (fun z => hb (by simp [z])) q)) hf (Nat.le_refl _) new
    refine ⟨.ref s.heap.objs.size, _, I1, rfl, ⟨_, x, rfl, I.hok.fresh (Nat.le_refl _), rfl, fun ys hy => by rw [I.tuple_inj hy hq]; exact hx⟩, ⟨⟨u', ?_⟩, hst.1.at fun o q => (sb.2 it (Ne.symm hne)).trans q, hne, hai, hae⟩, fun b hb => ?_⟩
    · rw [show ((i + 1 : Nat) : Int) = (i : Int) + 1 by omega]
      exact he'
    · have hb' : b < s.heap.objs.size := by
        rcases (by simpa using hb : b = e ∨ b = it) with z | z
        · rw [z]; exact hel
        · rw [z]; exact hil
      rw [upd_ne (Nat.ne_of_lt hb')]
      exact (hf b hb).1
  done := by
    intro X hP hw hK hc i pins s σ H E I hf st hg
    subst hP hw hK
    obtain ⟨⟨old, he⟩, hit, hne, hai, hae⟩ := st
    obtain ⟨xs, hq, hx⟩ := hg
    obtain ⟨its, rv, p, hz⟩ := I.tuple hq
    have hh : X.A.in1.handled = none := I.ok.hd hc
    obtain ⟨f0, f1, f2, f3, f4, f5⟩ := hf it (by simp)
    have hn : its.toArray.size = i := by rw [List.size_toArray, ← rv.length]; exact hx
    exact wpAny_pyNext_enum_endD (Draws.tuple (prog := X.prog) (w := X.w) hh it a hai its.toArray) he ⟨by rw [hn]; exact hit, p⟩ fun h' eb => ⟨rfl, I.turned (t' := s.toks) (fun b o hb q => eb b o hb q) f0 f1 f3 f4 f5⟩
  self := fun A i s Q E st h => by
    obtain ⟨⟨_, he⟩, _⟩ := st
    exact wpAny_pyIter_enum he h
def iEnT (K : PySem.W.Frag) (ta : TA) : TI := fun σ H R => ta σ H fun vs H1 => ∃ a xs, vs = [.ref a] ∧ SqT K H1 a xs ∧ R (ItEt K a) H1
theorem pi_enumT {X : Cx} {e : Expr} {ta : TA} {p pos tpos : Pos} {elts : List Expr} {kk : Nat} (hg : Gl X "enumerate") (hm : X.mg "enumerate" = none) (ha : PA X [e] ta) (hs : starEach [e] X.env = [(false, eval e X.env)] := by rfl) :
    PI X (.Tuple elts kk tpos) (.Call (.Name "enumerate" p) [e] [] pos) (iEnT X.K ta) := by
  refine ⟨fun pins s σ H R I h => ?_⟩
  refine Call_ (ld_blt I hg hm boot_enumerate (PyProof.Rows.callWith_type1 (thn (ha.run pos pins s σ H _ I h) fun us s1 ⟨vs, H1, I1, r1, q1⟩ => ?_) hs rfl))
  obtain ⟨a, xs, ex, hq, q⟩ := q1
  subst ex
  cases r1 with
  | cons r rr =>
    cases rr
    cases r
    obtain ⟨its, rv, p', hz⟩ := I1.tuple hq
    refine enum1 (begins_tuple a its.toArray) p' fun h' he hit hk => wpAny_pyIter_enum he ?_
    have I2 : Inv X pins σ H1 { s1 with heap := h' } := I1.kept (t' := s1.toks) hk
    have hal : a < s1.heap.objs.size := by obtain ⟨_, q, _⟩ := p'; exact Heap.lt_size q
    refine ⟨s1.heap.objs.size + 1, [s1.heap.objs.size + 1, s1.heap.objs.size], _, _, H1, rfl, I2, turn_enumT a (s1.heap.objs.size + 1) s1.heap.objs.size, ⟨⟨.none, he⟩, ⟨_, hit, rfl, rfl⟩, Nat.succ_ne_self _, Nat.ne_of_lt hal, Nat.ne_of_lt (Nat.lt_succ_of_lt hal)⟩, fun b hb => ?_, q⟩
    have hle : s1.heap.objs.size ≤ b := by
      rcases (by simpa using hb : b = s1.heap.objs.size + 1 ∨ b = s1.heap.objs.size) with z | z
      · rw [z]; exact Nat.le_add_right _ _
      · rw [z]; exact Nat.le_refl _
    exact I1.fpOk hle (I1.hok.fresh hle)
theorem walk_enumT {K : PySem.W.Frag} {a : Addr} {xs : List V} : Walk (ItEt K a) xs.length (fun H => SqT K H a xs) (YPair (fun i => some (.int (i : Nat))) (fun i => xs[i]?)) :=
  ⟨fun i _ hi q => ⟨xs, xs[i], q, by simp [hi]⟩, fun _ q => ⟨xs, q, rfl⟩, fun i H v H' _ q ⟨T, x, e1, e2, e3, e4⟩ => ⟨T, _, x, e1, e2, e3, rfl, e4 xs q⟩⟩
end Toy

namespace Toy
open PySem PySem.Spec PyProof.Rows L2
/-! isinstance, by the names of the built-in types -/
def tyN (H : Hp) : V → Option String
  | .non => some "NoneType"
  | .bl _ => some "bool"
  | .int _ => some "int"
  | .str _ => some "str"
  | .ref a => match H a with
    | some (.lst _) => some "list"
    | some (.tup _) => some "tuple"
    | some (.dK _) => some "dict"
    | some (.dT _) => some "dict"
    | _ => none
  | _ => none
theorem tyN_x {K : PySem.W.Frag} {H : Hp} {v : V} {n : String} (h : tyN H v = some n) : TyX K H v (.type n) := by
  cases v with
  | non => cases h; exact .base .non
  | bl b => cases h; exact .base (.bl b)
  | int i => cases h; exact .base (.int i)
  | str z => cases h; exact .base (.str z)
  | ref a =>
    unfold tyN at h
    cases e : H a with
    | none => simp only [e] at h; cases h
    | some o =>
      cases o with
      | lst xs => simp only [e] at h; cases h; exact .base (.lst e)
      | tup xs => simp only [e] at h; cases h; exact .base (.tup e)
      | dK kvs => simp only [e] at h; cases h; exact .base (.dK e)
      | dT kvs => simp only [e] at h; cases h; exact .base (.dT e)
      | _ => simp only [e] at h; cases h
  | _ => cases h
theorem tyN_keep {H H' : Hp} {v : V} {n : String} (k : Same H H') (h : tyN H v = some n) : tyN H' v = some n := by
  cases v with
  | ref a =>
    cases e : H a with
    | none => unfold tyN at h; simp only [e] at h; cases h
    | some o => have e' := k a o e; unfold tyN at h ⊢; simp only [e, e'] at h ⊢; exact h
  | _ => exact h
section
variable {X : Cx}
def rIsN (T : String) : List V → Hp → VK → Prop := fun xs H Q => ∃ (x : V) (n : String) (b : Bool), xs = [x, .ty T] ∧ tyN H x = some n ∧ kitB n T = some b ∧ Q (.bl b) H
theorem call_isN {T : String} : CallR X (.builtin "isinstance") (rIsN T) := by
  intro pins s σ H xs us Q I r h
  obtain ⟨x, n, b, e, h1, h2, q⟩ := h
  exact call_isi pins s σ H xs us Q I r ⟨x, .ty T, _, _, b, e, .ty T, tyN_x h1, kit_ty h2, q⟩
/-- isinstance(x, (T, U)) -/
def rIsN2 (T U : String) : List V → Hp → VK → Prop := fun xs H Q => ∃ (x : V) (tp : Addr) (n : String) (b : Bool), xs = [x, .ref tp] ∧ H tp = some (.tup [.ty T, .ty U]) ∧ tyN H x = some n ∧ (n = T → b = true) ∧ (n = U → b = true) ∧
  ((∃ b1 b2, kitB n T = some b1 ∧ kitB n U = some b2 ∧ b = (b1 || b2)) ∧ Q (.bl b) H)
theorem call_isN2 {T U : String} : CallR X (.builtin "isinstance") (rIsN2 T U) := by
  intro pins s σ H xs us Q I r h
  obtain ⟨x, tp, n, b, e, ht, h1, _, _, ⟨b1, b2, k1, k2, eb⟩, q⟩ := h
  refine call_isiT pins s σ H xs us Q I r ⟨x, tp, _, _, [.type T, .type U], b, e, ht, .cons (.ty T) (.cons (.ty U) .nil), tyN_x h1, ?_, q⟩
  refine kitAny_cons (kit_ty k1) (fun z => kitAny_cons (kit_ty k2) (fun z2 => ?_) (fun z2 => ?_)) (fun z => ?_)
  · rw [eb, z, z2]; exact kitAny_nil
  · rw [eb, z, z2]; rfl
  · rw [eb, z]; rfl
/-! in: a list, a tuple, a dict -/
def rInDct : R2 := fun x y H Q => ∃ a o, y = .ref a ∧ DGet H a x o ∧ Q (.bl o.isSome) H
theorem op_in_dct (hu : X.A.units + 1 < cLine) : OpR X (compareOp .In) rInDct := by
  intro pins s σ H x y v u Q I rx ry h
  obtain ⟨a, o, rfl, g, q⟩ := h
  obtain rfl : u = Value.ref a := ry
  exact d_in hu I g rx fun s3 I3 => ⟨.bl o.isSome, H, I3, rfl, q⟩
theorem op_or {f : Value → Value → Sem Value} {r r' : R2} (h : OpR X f r) (h' : OpR X f r') : OpR X f (fun x y H Q => r x y H Q ∨ r' x y H Q) := by
  intro pins s σ H x y v u Q I rx ry q
  rcases q with q | q
  · exact h pins s σ H x y v u Q I rx ry q
  · exact h' pins s σ H x y v u Q I rx ry q
theorem call_or {f : Value} {r r' : List V → Hp → VK → Prop} (h : CallR X f r) (h' : CallR X f r') : CallR X f (fun xs H Q => r xs H Q ∨ r' xs H Q) := by
  intro pins s σ H xs us Q I rs q
  rcases q with q | q
  · exact h pins s σ H xs us Q I rs q
  · exact h' pins s σ H xs us Q I rs q
/-! ranges as values -/
theorem cr_rng1 : CallR X (.type "range") (fun vs H Q => ∃ j, vs = [V.int j] ∧ ∀ p, H p = none → Q (.ref p) (upd H p (.rng 0 j))) := by
  intro pins s σ H vs us Q I r h
  obtain ⟨j, rfl, q⟩ := h
  obtain ⟨u1, rfl, rj⟩ := vals1 r
  obtain ⟨t, rfl⟩ := rj
  refine call_range_1 ⟨.ref s.heap.objs.size, upd H s.heap.objs.size (.rng 0 j), I.laid (t' := s.toks + 1 + 1) (fun b o e => Heap.get?_push_of_some _ e) (Nat.le_refl _) ?_, rfl, q _ (I.hok.fresh (Nat.le_refl _))⟩
  exact ⟨_, _, _, Heap.get?_push_size _ rfl⟩
def iRngV (te : TE) : TI := fun σ H R => te σ H fun x H1 => ∃ (a : Addr) (lo hi : Int), x = .ref a ∧ H1 a = some (.rng lo hi) ∧ -(2 ^ 62) ≤ lo ∧ lo < 2 ^ 62 ∧ -(2 ^ 62) ≤ hi ∧ hi < 2 ^ 62 ∧ R (Itr lo (hi - lo).toNat) H1
theorem pi_rngV {tg e : Expr} {te : TE} (he : PE X e te) : PI X tg e (iRngV te) := by
  refine ⟨fun pins s σ H R I h => ?_⟩
  refine thn (he.run pins s σ H _ I h) fun v s1 ⟨x, H1, I1, rx, a, lo, hi, ex, ha, h1, h2, h3, h4, q⟩ => ?_
  subst ex
  obtain rfl : v = Value.ref a := rx
  obtain ⟨t, u, w', ho⟩ := I1.hok a _ ha
  have hn : Builtin.Range.rangeSize lo hi 1 = (((hi - lo).toNat : Nat) : Int) := by
    unfold Builtin.Range.rangeSize
    split <;> split <;> omega
  refine range_begins (n := (hi - lo).toNat) ho (small_one h1 h2 h3 h4) hn fun h' hit hsz hk => ?_
  have I2 : Inv X pins σ H1 { s1 with heap := h' } := I1.kept (t' := s1.toks) hk
  refine ⟨s1.heap.objs.size, [s1.heap.objs.size], _, _, H1, rfl, I2, turn_range _ lo (hi - lo).toNat, range_st hit, fun b hb => ?_, q⟩
  obtain rfl : b = s1.heap.objs.size := by simpa using hb
  exact I1.fpOk (Nat.le_refl _) (I1.hok.fresh (Nat.le_refl _))
/-! min of a list of data -/
def rMinD (K : PySem.W.Frag) : List V → Hp → VK → Prop := fun vs H Q => ∃ (a : Addr) (xs : List V) (d : PyData) (ds : List PyData), vs = [.ref a] ∧ SqL K H a xs ∧ DpAll K H xs (d :: ds) ∧ PySem.W.AlikeAll (d :: ds) ∧ PyData.depthAll (d :: ds) ≤ 60 ∧
  ∀ (i : Nat) v, xs[i]? = some v → (d :: ds)[i]? = some (PySem.W.minD d ds) → Q v H
theorem dp_at {K : PySem.W.Frag} {H : Hp} : ∀ {xs : List V} {ds : List PyData} {i : Nat} {v : V}, DpAll K H xs ds → xs[i]? = some v → ∃ d, ds[i]? = some d ∧ Dp K H v d
  | _, _, _, _, .nil, e => by simp at e
  | _, _, 0, _, .cons r _, e => by simp at e; subst e; exact ⟨_, rfl, r⟩
  | _, _, i + 1, x, .cons _ t, e => by
    obtain ⟨y, h1, h2⟩ := dp_at (i := i) (v := x) t (by simpa using e)
    exact ⟨y, by simpa using h1, h2⟩
theorem cr_minD (hc : X.calm = true) (hu : X.A.units + 64 < cLine) : CallR X (.builtin "min") (rMinD X.K) := by
  intro pins s σ H vs us Q I r h
  obtain ⟨a, xs, d, ds, rfl, hs, hd, al, hz, q⟩ := h
  obtain ⟨u, rfl, ru⟩ := vals1 r
  obtain rfl : u = Value.ref a := ru
  obtain ⟨its, rv, p, _⟩ := I.list hs
  obtain ⟨as, hr⟩ := Dp.readsAll I (d :: ds) xs its hd rv
  refine PySem.W.min_list_data (I.ok.hd hc) p.isList (by simpa using hr) al (by omega) fun i v h' tk bs hv hrd hk => ?_
  rw [List.getElem?_toArray] at hv
  obtain ⟨x, hx, rx⟩ := prd_at2 rv hv
  obtain ⟨e, he, de⟩ := dp_at hd hx
  obtain ⟨cs, hre⟩ := Dp.reads I e x v de rx
  have hre' : Reads h' v e cs := PySem.W.reads_keeps hk hre
  have eq1 := hrd.unique e cs hre'
  refine ⟨x, H, I.kept (t' := tk) hk, rx, q i x hx ?_⟩
  rw [he, eq1.1]
end
end Toy

namespace Toy
open PySem PySem.Spec PyProof.Rows L2
theorem tyN_mem {H : Hp} {v : V} {n : String} (h : tyN H v = some n) : n ∈ ["NoneType", "bool", "int", "str", "list", "tuple", "dict"] := by
  cases v with
  | ref a =>
    unfold tyN at h
    cases e : H a with
    | none => simp only [e] at h; cases h
    | some o => cases o <;> simp only [e] at h <;> cases h <;> simp
  | _ => cases h <;> simp
theorem kit7_all : ∀ n ∈ ["NoneType", "bool", "int", "str", "list", "tuple", "dict"], ∀ T ∈ ["bool", "int", "str", "list", "tuple", "dict"], kitB n T = some (n == T || (n == "bool" && T == "int")) := by
  decide +kernel
theorem kit7 {H : Hp} {v : V} {n T : String} (h : tyN H v = some n) (hT : T ∈ ["bool", "int", "str", "list", "tuple", "dict"]) : kitB n T = some (n == T || (n == "bool" && T == "int")) := kit7_all n (tyN_mem h) T hT
theorem tyN_int {H : Hp} {v : V} (h : tyN H v = some "int") : ∃ i, v = .int i := by
  cases v with
  | int i => exact ⟨i, rfl⟩
  | ref a =>
    unfold tyN at h
    cases e : H a with
    | none => simp only [e] at h; cases h
    | some o => cases o <;> simp only [e] at h <;> simp at h
  | _ => simp [tyN] at h
theorem tyN_str {H : Hp} {v : V} (h : tyN H v = some "str") : ∃ i, v = .str i := by
  cases v with
  | str i => exact ⟨i, rfl⟩
  | ref a =>
    unfold tyN at h
    cases e : H a with
    | none => simp only [e] at h; cases h
    | some o => cases o <;> simp only [e] at h <;> simp at h
  | _ => simp [tyN] at h
theorem tyN_tup {H : Hp} {v : V} (h : tyN H v = some "tuple") : ∃ a xs, v = .ref a ∧ H a = some (.tup xs) := by
  cases v with
  | ref a =>
    unfold tyN at h
    cases e : H a with
    | none => simp only [e] at h; cases h
    | some o =>
      cases o with
      | tup xs => exact ⟨a, xs, rfl, e⟩
      | _ => simp only [e] at h <;> simp at h
  | _ => simp [tyN] at h
def spIsInt : Sp := fun vs H Q _ => ∃ (v : V) (n : String), vs = [v] ∧ tyN H v = some n ∧ Q (.bl (n == "int")) H
theorem tyN_bl {H : Hp} {v : V} (h : tyN H v = some "bool") : ∃ i, v = .bl i := by
  cases v with
  | bl i => exact ⟨i, rfl⟩
  | ref a =>
    unfold tyN at h
    cases e : H a with
    | none => simp only [e] at h; cases h
    | some o => cases o <;> simp only [e] at h <;> simp at h
  | _ => simp [tyN] at h
def isI : V → Bool
  | .int _ => true
  | _ => false
def isNat : V → Bool
  | .int i => decide (0 ≤ i)
  | _ => false
def isBelow (m : Int) : V → Bool
  | .int i => decide (0 ≤ i ∧ i < m)
  | _ => false
theorem isI_n {H : Hp} {v : V} {n : String} (h : tyN H v = some n) : (n == "int") = isI v := by
  cases v with
  | ref a =>
    unfold tyN at h
    cases e : H a with
    | none => simp only [e] at h; cases h
    | some o => cases o <;> simp only [e] at h <;> cases h <;> rfl
  | _ => cases h <;> rfl
theorem isNat_no {v : V} (h : isI v = false) : isNat v = false := by cases v <;> first | rfl | cases h
theorem isBelow_no {m : Int} {v : V} (h : isNat v = false) : isBelow m v = false := by
  cases v with
  | int i =>
    have h : decide (0 ≤ i) = false := h
    have h := of_decide_eq_false h
    exact decide_eq_false fun z => h z.1
  | _ => rfl
/-- texts: 1 to 8 letters -/
def isNm : V → Bool
  | .str z => decide (1 ≤ z.length ∧ z.length ≤ 8 ∧ ∀ c ∈ z.cps.toList, 97 ≤ c ∧ c ≤ 122)
  | _ => false
theorem dec_int (a b : Int) : decide (V.int a = V.int b) = decide (a = b) := by
  by_cases e : a = b
  · subst e; simp
  · have h : ¬ V.int a = V.int b := fun q => e (by injection q)
    rw [decide_eq_false h, decide_eq_false e]
def spIsInteger : Sp := fun vs H Q _ => ∃ (v : V) (n : String), vs = [v] ∧ tyN H v = some n ∧ Q (.bl (isI v)) H
def spIsNatural : Sp := fun vs H Q _ => ∃ (v : V) (n : String), vs = [v] ∧ tyN H v = some n ∧ Q (.bl (isNat v)) H
def spIsBelow : Sp := fun vs H Q _ => ∃ (v : V) (n : String) (m : Int), vs = [v, .int m] ∧ tyN H v = some n ∧ Q (.bl (isBelow m v)) H
def spIsRow : Sp := fun vs H Q _ => ∃ (v : V) (n : String), vs = [v] ∧ tyN H v = some n ∧ ∀ H', Same H H' → Q (.bl (n == "list" || n == "tuple")) H'
def spIsPrice : Sp := fun vs H Q _ => ∃ (v : V) (n : String), vs = [v] ∧ tyN H v = some n ∧ Q (.bl (isBelow 10 v)) H
/-- a tuple of so many -/
def isTup (H : Hp) (m : Int) : V → Bool
  | .ref a => match H a with
    | some (.tup xs) => decide ((xs.length : Int) = m)
    | _ => false
  | _ => false
theorem isTup_no {H : Hp} {m : Int} {v : V} {n : String} (h : tyN H v = some n) (hn : (n == "tuple") = false) : isTup H m v = false := by
  cases v with
  | ref a =>
    unfold tyN at h; unfold isTup
    cases e : H a with
    | none => simp only [e]
    | some o => cases o <;> simp only [e] at h ⊢ <;> cases h <;> simp at hn
  | _ => rfl
def spIsTupleOf : Sp := fun vs H Q _ => ∃ (v : V) (n : String) (m : Int), vs = [v, .int m] ∧ tyN H v = some n ∧ Q (.bl (isTup H m v)) H
theorem abc_mem (c : Nat) : decide (c ∈ (Str.ofString "abcdefghijklmnopqrstuvwxyz").cps.toList) = decide (97 ≤ c ∧ c ≤ 122) := by
  have e : (Str.ofString "abcdefghijklmnopqrstuvwxyz").cps.toList = [97,98,99,100,101,102,103,104,105,106,107,108,109,110,111,112,113,114,115,116,117,118,119,120,121,122] := by decide +kernel
  rw [e]
  have h : (c ∈ [97,98,99,100,101,102,103,104,105,106,107,108,109,110,111,112,113,114,115,116,117,118,119,120,121,122]) ↔ (97 ≤ c ∧ c ≤ 122) := by
    simp only [List.mem_cons, List.not_mem_nil, or_false]
    omega
  exact decide_eq_decide.mpr h
/-- name in names: a tuple or list of texts, or a dict of texts -/
def spIsKnown : Sp := fun vs H Q _ => ∃ (z : Str) (v : V), vs = [.str z, v] ∧
  ((∃ (a : Addr) (zs : List Str), v = .ref a ∧ (H a = some (.tup (zs.map V.str)) ∨ H a = some (.lst (zs.map V.str))) ∧ Q (.bl (decide (z ∈ zs))) H) ∨ ∃ (a : Addr) (kvs : List (Key × V)), v = .ref a ∧ H a = some (.dK kvs) ∧ Q (.bl (valV kvs (.inr z : Key)).isSome) H)
def spIsName : Sp := fun vs H Q _ => ∃ (v : V) (n : String), vs = [v] ∧ tyN H v = some n ∧ (∀ z, v = .str z → z.length ≤ sizeLine) ∧ ∀ H', Same H H' → Q (.bl (isNm v)) H'
end Toy

namespace Toy
open PySem PySem.Spec PyProof.Rows L2
theorem nd_t {p : Prop} [Decidable p] (h : (!decide p) = true) : ¬ p := by simpa using h
theorem nd_f {p : Prop} [Decidable p] (h : ¬ (!decide p) = true) : p := by simpa using h
def rTupOf (K : PySem.W.Frag) : List V → Hp → VK → Prop := fun xs H Q => ∃ p ys, xs = [.ref p] ∧ ((SqL K H p ys ∧ ∀ l, H l = none → Q (.ref l) (upd H l (.tup ys))) ∨ (SqT K H p ys ∧ Q (.ref p) H))
def rListOf (K : PySem.W.Frag) : List V → Hp → VK → Prop := fun xs H Q => ∃ p ys, xs = [.ref p] ∧ (SqL K H p ys ∨ SqT K H p ys) ∧ ∀ l, H l = none → Q (.ref l) (upd H l (.lst ys))
def rLenSeq (K : PySem.W.Frag) : List V → Hp → VK → Prop := fun xs H Q => ∃ p ys, xs = [.ref p] ∧ (SqL K H p ys ∨ SqT K H p ys) ∧ Q (.int ys.length) H
def spIsMoves : Sp := fun vs H Q _ => ∃ (v : V) (rows : List (List Int)) (n top : Int), vs = [v] ∧ TupT IntT H v rows ∧ Square n top rows ∧ 1 ≤ n ∧ n ≤ 6 ∧ top ≤ 9 ∧ ∀ H', Same H H' → Q (.bl true) H'
def spIsPrices : Sp := fun vs H Q _ => ∃ (v : V) (row : List (Option Int)) (n top : Int), vs = [v, .int n] ∧ OptT H v row ∧ Prices n top row ∧ n ≤ 6 ∧ top ≤ 9 ∧ ∀ H', Same H H' → Q (.bl true) H'
def spIsRequests : Sp := fun vs H Q _ => ∃ (d : Addr) (kvs : List (Key × V)) (rs : List (Str × List (Option Int))) (n top : Int), vs = [.ref d, .int n] ∧ H d = some (.dK kvs) ∧ DctOf OptT H kvs rs ∧ (rs.map (·.1)).Nodup ∧ 1 ≤ rs.length ∧ rs.length ≤ 5 ∧ (∀ q ∈ rs, Prices n top q.2 ∧ Name 8 q.1) ∧ n ≤ 6 ∧ top ≤ 9 ∧ ∀ H', Same H H' → Q (.bl true) H'
theorem ty_tup {H : Hp} {a : Addr} {xs : List V} (h : H a = some (.tup xs)) : tyN H (.ref a) = some "tuple" := by unfold tyN; simp only [h]
theorem ty_dK {H : Hp} {a : Addr} {xs : List (Key × V)} (h : H a = some (.dK xs)) : tyN H (.ref a) = some "dict" := by unfold tyN; simp only [h]
theorem rep_snoc (n : Nat) : (List.replicate n true).map V.bl ++ [V.bl true] = (List.replicate (n + 1) true).map V.bl := by
  rw [List.replicate_succ', List.map_append]; rfl
theorem rep_all (n : Nat) : (List.replicate n true).all id = true := by
  rw [List.all_eq_true]; intro x hx; rw [List.eq_of_mem_replicate hx]; rfl
theorem map_at {α : Type} {f : α → V} {xs : List α} {i : Nat} {x : V} (h : (xs.map f)[i]? = some x) : ∃ y, xs[i]? = some y ∧ x = f y := by
  rw [List.getElem?_map] at h
  cases e : xs[i]? with
  | none => rw [e] at h; cases h
  | some y => rw [e] at h; exact ⟨y, rfl, (Option.some.inj h).symm⟩
theorem same_upd {H H' : Hp} {D : Addr} {o : HO} (k : Same H H') (n : H D = none) : Same H (upd H' D o) := fun b u e => by
  rw [upd_ne (ne_of_none e n)]; exact k b u e
theorem tup_isTup {H : Hp} {a : Addr} {xs : List V} {m : Int} (h : H a = some (.tup xs)) (e : (xs.length : Int) = m) : isTup H m (.ref a) = true := by
  unfold isTup; simp only [h]; exact decide_eq_true e
theorem below_int {i m : Int} (h : 0 ≤ i) (h2 : i < m) : isBelow m (.int i) = true := decide_eq_true ⟨h, h2⟩
theorem nm_of {z : Str} (h : Name 8 z) : isNm (.str z) = true := decide_eq_true ⟨h.lo, by have := h.hi; omega, h.low.c⟩
theorem small_pt {α : Type} {xs : List α} {n : Int} (h : (xs.length : Int) = n) (h2 : n ≤ 100) : xs.length < sizeLine := small1000 (by omega)
end Toy

/-! least ways in a matrix of prices: plain mathematics -/
namespace Toy
/-- ways are told backwards: the head is the end, the last one the start -/
def rc (R : Nat → Nat → Int) : List Nat → Int
  | [] => 0
  | [_] => 0
  | j :: p :: t => R p j + rc R (p :: t)
structure Way (n i j : Nat) (l : List Nat) : Prop where
  hd : l.head? = some j
  la : l.getLast? = some i
  lt : ∀ x ∈ l, x < n
structure Least (n : Nat) (R M : Nat → Nat → Int) : Prop where
  has : ∀ i j, i < n → j < n → ∃ l, Way n i j l ∧ rc R l = M i j
  le : ∀ i j l, i < n → j < n → Way n i j l → M i j ≤ rc R l
theorem Least.uniq {n : Nat} {R M M' : Nat → Nat → Int} (a : Least n R M) (b : Least n R M') {i j : Nat} (hi : i < n) (hj : j < n) : M i j = M' i j := by
  obtain ⟨l, w, e⟩ := a.has i j hi hj
  obtain ⟨l', w', e'⟩ := b.has i j hi hj
  have h1 := a.le i j l' hi hj w'
  have h2 := b.le i j l hi hj w
  omega
theorem rc_app (R : Nat → Nat → Int) (x : Nat) (c : List Nat) : ∀ a : List Nat, rc R (a ++ x :: c) = rc R (a ++ [x]) + rc R (x :: c)
  | [] => by simp [rc]
  | [y] => by simp [rc]
  | y :: z :: a => by
    have ih := rc_app R x c (z :: a)
    simp only [List.cons_append, rc] at ih ⊢
    omega
theorem rc_nn {R : Nat → Nat → Int} {n : Nat} (h : ∀ i j, i < n → j < n → 0 ≤ R i j) : ∀ l : List Nat, (∀ x ∈ l, x < n) → 0 ≤ rc R l
  | [], _ => Int.le_refl _
  | [_], _ => Int.le_refl _
  | j :: p :: t, hl => by
    have h1 := rc_nn h (p :: t) (fun x hx => hl x (List.mem_cons_of_mem _ hx))
    have h2 := h p j (hl p (by simp)) (hl j (by simp))
    simp only [rc]
    omega
/-! the triangle -/
structure Tri (n : Nat) (M : Nat → Nat → Int) (m : Nat) : Prop where
  z : ∀ i, i < n → M i i = 0
  nn : ∀ i j, i < n → j < n → 0 ≤ M i j
  tri : ∀ i j k, i < n → j < n → k < m → M i j ≤ M i k + M k j
def ph (M : Nat → Nat → Int) (m : Nat) : Nat → Nat → Int := fun i j => if M i m + M m j < M i j then M i m + M m j else M i j
theorem ph_le {M : Nat → Nat → Int} {m i j : Nat} : ph M m i j ≤ M i j ∧ ph M m i j ≤ M i m + M m j ∧ (ph M m i j = M i j ∨ ph M m i j = M i m + M m j) := by
  unfold ph; split <;> omega
theorem Tri.ph {n m : Nat} {M : Nat → Nat → Int} (t : Tri n M m) (hm : m < n) : Tri n (ph M m) (m + 1) := by
  refine ⟨fun i hi => ?_, fun i j hi hj => ?_, fun i j k hi hj hk => ?_⟩
  · have h := @ph_le M m i i
    have h0 := t.z i hi
    have h1 := t.nn i m hi hm
    have h2 := t.nn m i hm hi
    omega
  · have h := @ph_le M m i j
    have h0 := t.nn i j hi hj
    have h1 := t.nn i m hi hm
    have h2 := t.nn m j hm hj
    omega
  · have hij := @ph_le M m i j
    have hik := @ph_le M m i k
    have hkj := @ph_le M m k j
    have hz := t.z m hm
    have n1 := t.nn i m hi hm
    have n2 := t.nn m j hm hj
    by_cases e : k = m
    · subst e
      omega
    · have hk' : k < m := by omega
      have t1 := t.tri i j k hi hj hk'
      have t2 := t.tri m j k hm hj hk'
      have t3 := t.tri i m k hi hm hk'
      have t4 := t.tri m m k hm hm hk'
      omega
structure Snd (n : Nat) (R M : Nat → Nat → Int) : Prop where
  has : ∀ i j, i < n → j < n → ∃ l, Way n i j l ∧ rc R l = M i j
theorem way_cat {n i m j : Nat} {a b : List Nat} {R : Nat → Nat → Int} (w : Way n i m a) (u : Way n m j b) : ∃ l, Way n i j l ∧ rc R l = rc R a + rc R b := by
  obtain ⟨a', rfl⟩ : ∃ a', a = m :: a' := by
    cases a with
    | nil => cases w.hd
    | cons x t => have := w.hd; simp at this; subst this; exact ⟨t, rfl⟩
  obtain ⟨b', rfl⟩ : ∃ b', b = b' ++ [m] := by
    have hb := u.la
    exact ⟨b.dropLast, by
      have hne : b ≠ [] := by rintro rfl; cases hb
      have := List.dropLast_concat_getLast hne
      rw [List.getLast?_eq_some_getLast hne] at hb
      rw [← Option.some.inj hb]
      exact this.symm⟩
  refine ⟨b' ++ m :: a', ⟨?_, ?_, ?_⟩, ?_⟩
  · have := u.hd
    cases b' with
    | nil => simpa using this
    | cons x t => simpa using this
  · rw [List.getLast?_append]
    have := w.la
    rw [this]; rfl
  · intro x hx
    rcases List.mem_append.mp hx with q | q
    · exact u.lt x (List.mem_append.mpr (.inl q))
    · exact w.lt x q
  · rw [rc_app]; omega
theorem Snd.ph {n m : Nat} {R M : Nat → Nat → Int} (s : Snd n R M) (hm : m < n) : Snd n R (ph M m) := by
  refine ⟨fun i j hi hj => ?_⟩
  rcases (@ph_le M m i j).2.2 with e | e
  · rw [e]; exact s.has i j hi hj
  · rw [e]
    obtain ⟨a, w, ea⟩ := s.has i m hi hm
    obtain ⟨b, u, eb⟩ := s.has m j hm hj
    obtain ⟨l, wl, el⟩ := way_cat (R := R) w u
    exact ⟨l, wl, by omega⟩
theorem Least.of {n : Nat} {R M : Nat → Nat → Int} (t : Tri n M n) (s : Snd n R M) (h : ∀ i j, i < n → j < n → M i j ≤ R i j) : Least n R M := by
  refine ⟨s.has, ?_⟩
  intro i j l hi hj w
  have key : ∀ l : List Nat, ∀ j, Way n i j l → M i j ≤ rc R l := by
    intro l
    induction l with
    | nil => intro j w; cases w.hd
    | cons x t' ih =>
      intro j w
      have hx : x = j := by have := w.hd; simpa using this
      subst hx
      cases t' with
      | nil =>
        have : x = i := by have := w.la; simpa using this
        subst this
        rw [t.z x hi]
        exact Int.le_refl _
      | cons p t'' =>
        have hp := w.lt p (by simp)
        have hx := w.lt x (by simp)
        have w2 : Way n i p (p :: t'') := ⟨rfl, by have := w.la; rw [List.getLast?_cons_cons] at this; exact this, fun y hy => w.lt y (List.mem_cons_of_mem _ hy)⟩
        have h1 := ih p w2
        have h2 := t.tri i x p hi hx hp
        have h3 := h p x hp hx
        simp only [rc]
        omega
  exact key l j w
/-! short ways do -/
theorem pigeon : ∀ (n : Nat) (l : List Nat), (∀ x ∈ l, x < n) → l.Nodup → l.length ≤ n
  | 0, l, h, _ => by
    cases l with
    | nil => exact Nat.le_refl _
    | cons x t => exact absurd (h x (by simp)) (by omega)
  | n + 1, l, h, nd => by
    have h1 : (l.erase n).length ≤ n := pigeon n (l.erase n) (fun x hx => by
      have hx' := (List.Nodup.mem_erase_iff nd).mp hx
      have := h x hx'.2
      have := hx'.1
      omega) (nd.erase n)
    by_cases e : n ∈ l
    · have := List.length_erase_of_mem e
      have := List.length_pos_of_mem e
      omega
    · rw [List.erase_of_not_mem e] at h1
      omega
theorem dup : ∀ l : List Nat, ¬ l.Nodup → ∃ a x b c, l = a ++ x :: (b ++ x :: c)
  | [], h => absurd List.nodup_nil h
  | x :: t, h => by
    by_cases e : x ∈ t
    · obtain ⟨b, c, rfl⟩ := List.append_of_mem e
      exact ⟨[], x, b, c, rfl⟩
    · have : ¬ t.Nodup := fun q => h (List.nodup_cons.mpr ⟨e, q⟩)
      obtain ⟨a, y, b, c, rfl⟩ := dup t this
      exact ⟨x :: a, y, b, c, rfl⟩
theorem short {n : Nat} {R : Nat → Nat → Int} (h : ∀ i j, i < n → j < n → 0 ≤ R i j) {i j : Nat} : ∀ (k : Nat) (l : List Nat), l.length ≤ k → Way n i j l → ∃ l', Way n i j l' ∧ l'.length ≤ n ∧ rc R l' ≤ rc R l
  | 0, l, hk, w => by
    cases l with
    | nil => cases w.hd
    | cons x t => simp at hk
  | k + 1, l, hk, w => by
    by_cases hn : l.length ≤ n
    · exact ⟨l, w, hn, Int.le_refl _⟩
    · have hd : ¬ l.Nodup := fun q => hn (pigeon n l w.lt q)
      obtain ⟨a, x, b, c, rfl⟩ := dup l hd
      have w' : Way n i j (a ++ x :: c) := by
        refine ⟨?_, ?_, ?_⟩
        · have := w.hd
          cases a <;> simpa using this
        · have hl := w.la
          rw [List.getLast?_append] at hl ⊢
          have e : (x :: (b ++ x :: c)).getLast? = (x :: c).getLast? := by
            rw [show x :: (b ++ x :: c) = (x :: b) ++ x :: c from rfl, List.getLast?_append]
            cases hq : (x :: c).getLast? with
            | none => simp at hq
            | some y => rfl
          rw [e] at hl; exact hl
        · intro y hy
          refine w.lt y ?_
          simp only [List.mem_append, List.mem_cons] at hy ⊢
          rcases hy with q | q | q
          · exact .inl q
          · exact .inr (.inl q)
          · exact .inr (.inr (.inr (.inr q)))
      have hlen : (a ++ x :: c).length ≤ k := by
        simp only [List.length_append, List.length_cons] at hk ⊢
        omega
      obtain ⟨l', wl, el, rl⟩ := short h k _ hlen w'
      refine ⟨l', wl, el, Int.le_trans rl ?_⟩
      have e1 := rc_app R x c a
      have e2 := rc_app R x (b ++ x :: c) a
      have e3 := rc_app R x c (x :: b)
      rw [show (x :: b) ++ x :: c = x :: (b ++ x :: c) from rfl] at e3
      have e4 : 0 ≤ rc R ((x :: b) ++ [x]) := rc_nn h _ fun y hy => w.lt y (by
        simp only [List.mem_append, List.mem_cons, List.not_mem_nil, or_false] at hy ⊢
        rcases hy with (q | q) | q
        · exact .inr (.inl q)
        · exact .inr (.inr (.inl q))
        · exact .inr (.inl q))
      omega
/-- products with R, again and again -/
structure Bound (n k : Nat) (R L : Nat → Nat → Int) : Prop where
  b : ∀ i j l, i < n → j < n → Way n i j l → l.length ≤ k → L i j ≤ rc R l
theorem Least.prod {n k : Nat} {R L : Nat → Nat → Int} (h : ∀ i j, i < n → j < n → 0 ≤ R i j) (s : Snd n R L) (b : Bound n k R L) (hk : n ≤ k) : Least n R L := by
  refine ⟨s.has, fun i j l hi hj w => ?_⟩
  obtain ⟨l', w', e, r⟩ := short h l.length l (Nat.le_refl _) w
  exact Int.le_trans (b.b i j l' hi hj w' (by omega)) r
theorem Bound.step {n k : Nat} {R L L' : Nat → Nat → Int} (b : Bound n k R L) (z : ∀ i, i < n → R i i = 0) (hk : 1 ≤ k) (h : ∀ i j c, i < n → j < n → c < n → L' i j ≤ L i c + R c j) : Bound n (k + 1) R L' := by
  refine ⟨fun i j l hi hj w hl => ?_⟩
  cases l with
  | nil => cases w.hd
  | cons x t =>
    have hx : x = j := by have := w.hd; simpa using this
    subst hx
    cases t with
    | nil =>
      have h1 := h i x x hi hj hj
      have h2 := b.b i x [x] hi hj w (by simpa using hk)
      rw [z x hj] at h1
      simp only [rc] at h2 ⊢
      omega
    | cons p t =>
      have hp := w.lt p (by simp)
      have w2 : Way n i p (p :: t) := ⟨rfl, by have := w.la; rw [List.getLast?_cons_cons] at this; exact this, fun y hy => w.lt y (List.mem_cons_of_mem _ hy)⟩
      have h1 := h i x p hi hj hp
      have h2 := b.b i p (p :: t) hi hp w2 (by simp only [List.length_cons] at hl ⊢; omega)
      simp only [rc]
      omega
theorem Bound.two {n : Nat} {R : Nat → Nat → Int} (z : ∀ i, i < n → R i i = 0) : Bound n 2 R R := by
  refine ⟨fun i j l hi hj w hl => ?_⟩
  match l, w, hl with
  | [], w, _ => cases w.hd
  | [x], w, _ =>
    have h1 : x = j := by have := w.hd; simpa using this
    have h2 : x = i := by have := w.la; simpa using this
    subst h1; subst h2
    rw [z x hi]; exact Int.le_refl _
  | [x, y], w, _ =>
    have h1 : x = j := by have := w.hd; simpa using this
    have h2 : y = i := by have := w.la; simpa using this
    subst h1; subst h2
    simp only [rc]; exact Int.le_of_eq (by omega)
  | _ :: _ :: _ :: _, _, hl => simp at hl
theorem Snd.self {n : Nat} {R : Nat → Nat → Int} : Snd n R R :=
  ⟨fun i j hi hj => ⟨[j, i], ⟨rfl, rfl, by intro x hx; simp at hx; rcases hx with rfl | rfl <;> assumption⟩, by simp [rc]⟩⟩
theorem Snd.step {n : Nat} {R L L' : Nat → Nat → Int} (s : Snd n R L) (h : ∀ i j, i < n → j < n → ∃ c, c < n ∧ L' i j = L i c + R c j) : Snd n R L' := by
  refine ⟨fun i j hi hj => ?_⟩
  obtain ⟨c, hc, e⟩ := h i j hi hj
  obtain ⟨a, w, ea⟩ := s.has i c hi hc
  obtain ⟨b, u, eb⟩ := (Snd.self (R := R)).has c j hc hj
  obtain ⟨l, wl, el⟩ := way_cat (R := R) w u
  exact ⟨l, wl, by omega⟩
end Toy

namespace Toy
open PySem PySem.Spec PyProof.Rows L2
def mat (rows : List (List Int)) (i j : Nat) : Int := (rows.getD i []).getD j 0
def rowV (n : Nat) (f : Nat → Int) : List V := (List.range n).map fun j => V.int (f j)
theorem rowV_len (n : Nat) (f : Nat → Int) : (rowV n f).length = n := by unfold rowV; rw [List.length_map, List.length_range]
theorem rowV_at {n : Nat} {f : Nat → Int} {j : Nat} (h : j < n) : (rowV n f)[j]? = some (.int (f j)) := by
  unfold rowV; rw [List.getElem?_map, List.getElem?_range h]; rfl
theorem rowV_set {n : Nat} {f : Nat → Int} {e : Nat} {v : Int} : (rowV n f).set e (.int v) = rowV n fun j => if j = e then v else f j := by
  apply List.ext_getElem?
  intro j
  rw [List.getElem?_set]
  by_cases hj : j < n
  · rw [rowV_at hj, rowV_at hj, rowV_len]
    by_cases he : e = j
    · subst he; simp [hj]
    · have he' : ¬ j = e := fun q => he q.symm
      simp [he, he']
  · have h1 : (rowV n f)[j]? = none := List.getElem?_eq_none (by rw [rowV_len]; omega)
    have h2 : (rowV n fun j => if j = e then v else f j)[j]? = none := List.getElem?_eq_none (by rw [rowV_len]; omega)
    rw [h1, h2, rowV_len]
    by_cases he : e = j
    · subst he; simp [hj]
    · simp [he]
theorem rowV_of {n : Nat} {r : List Int} (h : r.length = n) : r.map V.int = rowV n fun j => r.getD j 0 := by
  apply List.ext_getElem?
  intro j
  by_cases hj : j < n
  · rw [rowV_at hj, List.getElem?_map, List.getElem?_eq_getElem (by omega)]
    rw [List.getD_eq_getElem?_getD, List.getElem?_eq_getElem (by omega)]
    rfl
  · rw [List.getElem?_eq_none (l := r.map V.int) (by rw [List.length_map]; omega), List.getElem?_eq_none (l := rowV n _) (by rw [rowV_len]; omega)]
theorem rowV_ints (n : Nat) (f : Nat → Int) : rowV n f = ((List.range n).map f).map V.int := by
  unfold rowV; rw [List.map_map]; rfl
/-- a matrix that is written: a list of lists -/
structure MatAt (H : Hp) (w : Addr) (as : List Addr) (n : Nat) (M : Nat → Nat → Int) : Prop where
  ws : H w = some (.lst (as.map V.ref))
  len : as.length = n
  nd : as.Nodup
  nw : w ∉ as
  row : ∀ (i : Nat) a, as[i]? = some a → H a = some (.lst (rowV n (M i)))
theorem MatAt.ext {H : Hp} {w : Addr} {as : List Addr} {n : Nat} {M M' : Nat → Nat → Int} (m : MatAt H w as n M) (h : ∀ i j, i < n → j < n → M i j = M' i j) : MatAt H w as n M' :=
  ⟨m.ws, m.len, m.nd, m.nw, fun i a e => by
    have hi : i < n := by rw [← m.len]; exact (List.getElem?_eq_some_iff.mp e).1
    rw [m.row i a e]
    congr 2
    unfold rowV
    apply List.map_congr_left
    intro j hj
    rw [h i j hi (List.mem_range.mp hj)]⟩
theorem MatAt.set {H : Hp} {w : Addr} {as : List Addr} {n : Nat} {M : Nat → Nat → Int} (m : MatAt H w as n M) {s e : Nat} {a : Addr} {v : Int} (hs : as[s]? = some a) :
    MatAt (upd H a (.lst (rowV n fun j => if j = e then v else M s j))) w as n (fun i j => if i = s ∧ j = e then v else M i j) := by
  have haw : w ≠ a := fun q => m.nw (by rw [q]; exact List.mem_of_getElem? hs)
  refine ⟨(upd_ne haw).trans m.ws, m.len, m.nd, m.nw, fun i b hb => ?_⟩
  by_cases hi : i = s
  · subst hi
    rw [hs] at hb
    obtain rfl := Option.some.inj hb
    rw [upd_same]
    simp
  · have hab : b ≠ a := by
      intro q
      subst q
      exact hi (nd_ix m.nd hb hs)
    rw [upd_ne hab, m.row i b hb]
    simp [hi]
structure Ways (n : Int) (rows ws : List (List Int)) : Prop where
  len : (ws.length : Int) = n
  row : ∀ r ∈ ws, (r.length : Int) = n
  least : Least n.toNat (mat rows) (mat ws)
def spLeastWays : Sp := fun vs H Q _ => ∃ (v : V) (rows : List (List Int)) (n top : Int), vs = [v] ∧ TupT IntT H v rows ∧ Square n top rows ∧ 1 ≤ n ∧ n ≤ 100 ∧
  ∀ v' ws H', Same H H' → TupT IntT H' v' ws → Ways n rows ws → Q v' H'
theorem mat_at {rows : List (List Int)} {i : Nat} {r : List Int} (h : rows[i]? = some r) (j : Nat) : mat rows i j = r.getD j 0 := by
  unfold mat
  have e : rows.getD i [] = r := by rw [List.getD_eq_getElem?_getD, h]; rfl
  rw [e]
theorem Square.nn {n top : Int} {rows : List (List Int)} (S : Square n top rows) : ∀ i j, i < n.toNat → j < n.toNat → 0 ≤ mat rows i j := by
  intro i j hi hj
  have hl := S.len
  have hr : rows[i]? = some rows[i] := List.getElem?_eq_getElem (by omega)
  rw [mat_at hr]
  have hm := S.row rows[i] (List.mem_of_getElem? hr)
  rw [List.getD_eq_getElem?_getD, List.getElem?_eq_getElem (by omega)]
  exact (hm.2 _ (List.getElem_mem _)).1
theorem Square.z {n top : Int} {rows : List (List Int)} (S : Square n top rows) : ∀ i, i < n.toNat → mat rows i i = 0 := by
  intro i hi
  have hl := S.len
  have hr : rows[i]? = some rows[i] := List.getElem?_eq_getElem (by omega)
  rw [mat_at hr, List.getD_eq_getElem?_getD, S.diag i _ hr]
  rfl
end Toy

namespace Toy
open PySem PySem.Spec PyProof.Rows L2
/-- a System's attributes -/
def sfs (mv : V) (n : Int) (nv wv : V) (q : Addr) : List (Str × V) := putF "_requests" (.ref q) (putF "ways" wv (putF "names" nv (putF "posts" (.int n) (putF "moves" mv []))))
section
variable {mv nv wv : V} {n : Int} {q : Addr}
theorem sfs_requests : (sfs mv n nv wv q).lookup ("_requests" : Str) = some (.ref q) := by unfold sfs; rw [lookup_putF, if_pos rfl]
theorem sfs_ways : (sfs mv n nv wv q).lookup ("ways" : Str) = some wv := by unfold sfs; rw [lookup_putF, if_neg (by decide +kernel), lookup_putF, if_pos rfl]
theorem sfs_names : (sfs mv n nv wv q).lookup ("names" : Str) = some nv := by unfold sfs; rw [lookup_putF, if_neg (by decide +kernel), lookup_putF, if_neg (by decide +kernel), lookup_putF, if_pos rfl]
theorem sfs_posts : (sfs mv n nv wv q).lookup ("posts" : Str) = some (.int n) := by unfold sfs; rw [lookup_putF, if_neg (by decide +kernel), lookup_putF, if_neg (by decide +kernel), lookup_putF, if_neg (by decide +kernel), lookup_putF, if_pos rfl]
theorem sfs_moves : (sfs mv n nv wv q).lookup ("moves" : Str) = some mv := by unfold sfs; rw [lookup_putF, if_neg (by decide +kernel), lookup_putF, if_neg (by decide +kernel), lookup_putF, if_neg (by decide +kernel), lookup_putF, if_neg (by decide +kernel), lookup_putF, if_pos rfl]
theorem sfs_no {m : Str} (h1 : ¬ m = "_requests") (h2 : ¬ m = "ways") (h3 : ¬ m = "names") (h4 : ¬ m = "posts") (h5 : ¬ m = "moves") : (sfs mv n nv wv q).lookup m = none := by
  unfold sfs; rw [lookup_putF, if_neg h1, lookup_putF, if_neg h2, lookup_putF, if_neg h3, lookup_putF, if_neg h4, lookup_putF, if_neg h5]; rfl
end
theorem putF_len (f : Str) (v : V) : ∀ fs : List (Str × V), (putF f v fs).length ≤ fs.length + 1
  | [] => Nat.le_refl _
  | (g, u) :: r => by
    have ih := putF_len f v r
    unfold putF
    split
    · simp
    · simp only [List.length_cons]; omega
theorem dct_keys {α : Type} {R : Hp → V → α → Prop} {H : Hp} : ∀ {kvs : List (Key × V)} {rs : List (Str × α)}, DctOf R H kvs rs → kvs.map (·.1) = (rs.map (·.1)).map Sum.inr
  | _, _, .nil => rfl
  | kv :: kvs, p :: rs, .cons r t => by
    have ih := dct_keys t
    simp only [List.map_cons] at ih ⊢
    rw [ih, r.1]
def pick {α : Type} (rs : List (Str × α)) (z : Str) (x : α) : Prop := (z, x) ∈ rs
/-- the pairs in another order of their keys -/
theorem reorder {α : Type} [Inhabited α] : ∀ {rs : List (Str × α)} {ys : List Str}, (rs.map (·.1)).Nodup → ys.Perm (rs.map (·.1)) → ∃ rs' : List (Str × α), rs'.map (·.1) = ys ∧ rs'.Perm rs := by
  intro rs ys nd hp
  let f : Str → Str × α := fun z => (z, ((rs.find? fun p => decide (p.1 = z)).map (·.2)).getD default)
  have hf : ∀ (l : List (Str × α)), (∀ p ∈ l, p ∈ rs) → (l.map (·.1)).map f = l := by
    intro l hl
    rw [List.map_map]
    conv => rhs; rw [← List.map_id l]
    apply List.map_congr_left
    intro p hpm
    have hpr := hl p hpm
    show f p.1 = p
    have key : ∀ (l : List (Str × α)), (l.map (·.1)).Nodup → p ∈ l → (l.find? fun q => decide (q.1 = p.1)) = some p := by
      intro l
      induction l with
      | nil => intro _ h; cases h
      | cons q t ih =>
        intro nd hm
        rw [List.map_cons] at nd
        obtain ⟨n1, n2⟩ := List.nodup_cons.mp nd
        rcases List.mem_cons.mp hm with e | hm
        · subst e; rw [List.find?_cons, decide_eq_true rfl]
        · have : ¬ q.1 = p.1 := fun e => n1 (by rw [e]; exact List.mem_map.mpr ⟨p, hm, rfl⟩)
          rw [List.find?_cons, decide_eq_false this]
          exact ih n2 hm
    show (p.1, ((rs.find? fun q => decide (q.1 = p.1)).map (·.2)).getD default) = p
    rw [key rs nd hpr]
    rfl
  refine ⟨ys.map f, ?_, ?_⟩
  · rw [List.map_map]
    conv => rhs; rw [← List.map_id ys]
    apply List.map_congr_left
    intro z _
    rfl
  · have h1 := hp.map f
    rw [hf rs fun p h => h] at h1
    exact h1
theorem keep4 {H : Hp} {p l t : Addr} {a b c d : HO} (nl : H l = none) (nt : H t = none) : Keep p H (upd (upd (upd (upd H p a) l b) t c) p d) := fun x o n e => by
  rw [upd_ne n, upd_ne (ne_of_none e nt), upd_ne (ne_of_none e nl), upd_ne n]; exact e
theorem take_nmem {α : Type} {xs : List α} (nd : xs.Nodup) {i : Nat} {x : α} (h : xs[i]? = some x) : ¬ x ∈ xs.take i := by
  intro m
  obtain ⟨j, hj, ej⟩ := List.getElem_of_mem m
  rw [List.getElem_take] at ej
  rw [List.length_take] at hj
  have h2 := (List.getElem?_eq_some_iff.mp h).2
  have := (List.getElem_inj nd).mp (ej.trans h2.symm)
  omega
theorem sortedS_perm_nd {ys zs : List Str} (h : ys.Perm zs) (nd : zs.Nodup) : ys.Nodup := h.nodup_iff.mpr nd
/-- what a System is made of -/
structure Sys where
  n : Int
  rows : List (List Int)
  ws : List (List Int)
  rs : List (Str × List (Option Int))
structure SysOk (S : Sys) : Prop where
  n1 : 1 ≤ S.n
  n6 : S.n ≤ 6
  sq : Square S.n 9 S.rows
  wy : Ways S.n S.rows S.ws
  nd : (S.rs.map (·.1)).Nodup
  srt : sortedS (S.rs.map (·.1)) = true
  r1 : 1 ≤ S.rs.length
  r5 : S.rs.length ≤ 5
  pr : ∀ q ∈ S.rs, Prices S.n 9 q.2 ∧ Name 8 q.1
structure SysAt (C : Addr) (H : Hp) (p : Addr) (S : Sys) : Prop where
  ex : ∃ (dx : Addr) (mv : V) (na : Addr) (wv : V) (q : Addr) (kvs : List (Key × V)), H p = some (.ins C dx (sfs mv S.n (.ref na) wv q)) ∧ TupT IntT H mv S.rows ∧ H na = some (.tup ((S.rs.map (·.1)).map V.str)) ∧ TupT IntT H wv S.ws ∧ H q = some (.dK kvs) ∧ DctOf OptT H kvs S.rs
theorem SysAt.same {C : Addr} {H H' : Hp} {p : Addr} {S : Sys} (A : SysAt C H p S) (k : Same H H') : SysAt C H' p S := by
  obtain ⟨dx, mv, na, wv, q, kvs, h1, h2, h3, h4, h5, h6⟩ := A.ex
  exact ⟨dx, mv, na, wv, q, kvs, k _ _ h1, TupT.firm IntT.firm H H' _ _ (same_tups k) h2, k _ _ h3, TupT.firm IntT.firm H H' _ _ (same_tups k) h4, k _ _ h5, h6.firm OptT.firm (same_tups k)⟩
def spSystem (C : Addr) : Sp := fun vs H Q _ => ∃ (p dx : Addr) (mv : V) (d : Addr) (rows : List (List Int)) (kvs : List (Key × V)) (rs : List (Str × List (Option Int))) (n : Int), vs = [.ref p, mv, .ref d] ∧ H p = some (.ins C dx []) ∧
  TupT IntT H mv rows ∧ Square n 9 rows ∧ 1 ≤ n ∧ n ≤ 6 ∧ H d = some (.dK kvs) ∧ DctOf OptT H kvs rs ∧ (rs.map (·.1)).Nodup ∧ 1 ≤ rs.length ∧ rs.length ≤ 5 ∧ (∀ q ∈ rs, Prices n 9 q.2 ∧ Name 8 q.1) ∧
  ∀ (S : Sys) (H' : Hp), SysOk S → S.n = n → S.rows = rows → S.rs.Perm rs → SysAt C H' p S → (∀ b o, b ≠ p → H b = some o → H' b = some o) → Q .non H'
end Toy

namespace Toy
open PySem PySem.Spec PyProof.Rows L2
/-! a comprehension within another one -/
def fake (fr : List Str) : Scope := { kind := .function, names := fr.map fun x => (x, NameKind.free), isGenerator := false, isCoroutine := false }
def AllF (sc : Scope) : List Str → Prop
  | [] => True
  | x :: t => (sc.names.lookup x = some .cell ∨ sc.names.lookup x = some .free) ∧ AllF sc t
theorem allF_mem {sc : Scope} {x : Str} : ∀ {fr : List Str}, AllF sc fr → x ∈ fr → sc.names.lookup x = some .cell ∨ sc.names.lookup x = some .free
  | y :: t, h, m => by
    rcases List.mem_cons.mp m with e | m
    · rw [e]; exact h.1
    · exact allF_mem h.2 m
theorem blkOk_fr {N : List Str} {sc scope : Scope} {own : List (Str × Nat)} (fr : List Str) (h : blkC N (fake fr) scope own = true) (hf : AllF sc fr) : BlkOk N sc scope own := by
  have b := blkOk_by h
  refine ⟨b.kind, b.uniq, b.ix, fun y hy e => ?_, b.own⟩
  refine allF_mem hf ?_
  have q : ∀ k, (fake fr).names.lookup y.1 = some k → y.1 ∈ fr := fun k q => by
    have m := PySem.mem_of_lookup q
    obtain ⟨x, hx, e⟩ := List.mem_map.mp m
    cases e
    exact hx
  rcases b.free y hy e with z | z
  · exact q _ z
  · exact q _ z
theorem tup_mul1 (l : Addr) (items : Array Value) (n : Nat) (dd : Option Addr) (sl : Array (Option Value)) (u : Tok) :
    Meets (Builtin.«tuple.__mul__» ⟨[.ref l, .int 1 u], []⟩) (fun _ R s => s.heap.get? l = some { cls := .type "tuple", dict := dd, data := .seq items n, slots := sl } ∧ R (.ok (.ret (Value.ref l))) s) :=
  .of_wp fun prog w A R s h => by
    obtain ⟨hp, g, d, tk, os⟩ := s
    obtain ⟨hl, h⟩ := h
    have f1 := AutoSeq1.idx_int
    have c0 : (decide ((1 : Int) < -(2 ^ 63)) || decide ((1 : Int) ≥ 2 ^ 63)) = false := by decide
    have c1 : (items.isEmpty || (1 : Int) == 1) = true := by simp
    wp_walk using AutoSeq1.wpAny_loadPart' hl
    exact ⟨_, rfl, h⟩
section
variable {X : Cx}
def rRep1 (K : PySem.W.Frag) : R2 := fun x y H Q => ∃ l xs, x = .ref l ∧ y = .int 1 ∧ SqT K H l xs ∧ Q (.ref l) H
theorem op_rep1 : OpR X (binaryOp .Mult) (rRep1 X.K) := by
  intro pins s σ H x y v u Q I rx ry h
  obtain ⟨l, xs, rfl, rfl, hT, q⟩ := h
  cases rx
  obtain ⟨t, rfl⟩ := ry
  obtain ⟨its, r, ⟨⟨cls, dd, data, sl⟩, ho, hc, n, hd⟩, hs⟩ := I.tuple hT
  simp only at hc hd
  subst hc hd
  exact wpAny_binaryOp_repeat_ref (T := "tuple") (U := "int") (by decide) ⟨_, ho, rfl⟩ (fun s' => typeIs_int s' 1 t) noFill_tuple_mul F.fills_int_mul F.slot_int_rmul repeat_tuple F.slot_int_index.lookup
    (call_meets F.slot_int_rmul (typeIs_int s 1 t) F.entry_int_rmul (F.args_int_rmul_2 _ _) (int_rmul_tuple 1 t l its.toArray n dd sl)
      ⟨ho, rfl, ⟨_, ho, rfl⟩, call_meets F.slot_tuple_mul ⟨_, ho, rfl⟩ F.entry_tuple_mul (F.args_tuple_mul_2 _ _) (tup_mul1 l its.toArray n dd sl t) ⟨ho, .ref l, H, I, rfl, q⟩⟩)
theorem pi_or {tg iter : Expr} {w1 w2 : TI} (h1 : PI X tg iter w1) (h2 : PI X tg iter w2) : PI X tg iter (fun σ H R => w1 σ H R ∨ w2 σ H R) := by
  refine ⟨fun pins s σ H R I q => ?_⟩
  rcases q with q | q
  · exact h1.run pins s σ H R I q
  · exact h2.run pins s σ H R I q
end
end Toy

namespace Toy
open PySem PySem.Spec PyProof.Rows L2
/-! least of a list -/
def minL : List Int → Int
  | [] => 0
  | x :: xs => xs.foldl (fun a y => if y < a then y else a) x
theorem fold_le (xs : List Int) : ∀ x : Int, xs.foldl (fun a y => if y < a then y else a) x ≤ x ∧ (∀ y ∈ xs, xs.foldl (fun a y => if y < a then y else a) x ≤ y) ∧ (xs.foldl (fun a y => if y < a then y else a) x = x ∨ xs.foldl (fun a y => if y < a then y else a) x ∈ xs) := by
  induction xs with
  | nil => intro x; exact ⟨Int.le_refl _, by simp, .inl rfl⟩
  | cons z t ih =>
    intro x
    rw [List.foldl_cons]
    obtain ⟨h1, h2, h3⟩ := ih (if z < x then z else x)
    have hz : (if z < x then z else x) ≤ z ∧ (if z < x then z else x) ≤ x := by split <;> omega
    refine ⟨by omega, fun y hy => ?_, ?_⟩
    · rcases List.mem_cons.mp hy with e | hy
      · subst e; omega
      · exact h2 y hy
    · rcases h3 with e | e
      · rw [e]
        split
        · exact .inr List.mem_cons_self
        · exact .inl rfl
      · exact .inr (List.mem_cons_of_mem _ e)
theorem minL_le {l : List Int} {y : Int} (h : y ∈ l) : minL l ≤ y := by
  cases l with
  | nil => cases h
  | cons x xs =>
    obtain ⟨h1, h2, h3⟩ := fold_le xs x
    rcases List.mem_cons.mp h with e | h
    · subst e; exact h1
    · exact h2 y h
theorem minL_mem {l : List Int} (h : l ≠ []) : minL l ∈ l := by
  cases l with
  | nil => exact absurd rfl h
  | cons x xs =>
    obtain ⟨h1, h2, h3⟩ := fold_le xs x
    rcases h3 with e | e
    · show xs.foldl _ x ∈ x :: xs
      rw [e]; exact List.mem_cons_self
    · exact List.mem_cons_of_mem _ e
theorem minL_eq {l : List Int} {m : Int} (h : m ∈ l) (h2 : ∀ y ∈ l, m ≤ y) : minL l = m := by
  have a := minL_le h
  have b := h2 _ (minL_mem (fun e => by rw [e] at h; cases h))
  omega
def chF (ws : List (List Int)) (row : List (Option Int)) (ah : List Int) (s p : Nat) : Option (Int × Int) := match row.getD p none with
  | some c => some (mat ws s p + c + ah.getD p 0, (p : Int))
  | none => none
theorem chF_none {ws : List (List Int)} {row : List (Option Int)} {ah : List Int} {s p : Nat} (h : row.getD p none = none) : chF ws row ah s p = none := by unfold chF; rw [h]
theorem chF_some {ws : List (List Int)} {row : List (Option Int)} {ah : List Int} {s p : Nat} {c : Int} (h : row.getD p none = some c) : chF ws row ah s p = some (mat ws s p + c + ah.getD p 0, (p : Int)) := by unfold chF; rw [h]
/-- where one can go, and what it costs with what is ahead -/
def chs (n : Nat) (ws : List (List Int)) (row : List (Option Int)) (ah : List Int) (s : Nat) : List (Int × Int) :=
  (List.range n).filterMap (chF ws row ah s)
def ceil (n : Nat) (ws : List (List Int)) (row : List (Option Int)) (ah : List Int) : List Int := (List.range n).map fun s => minL ((chs n ws row ah s).map (·.1))
def val (n : Nat) (ws : List (List Int)) : List (List (Option Int)) → List Int
  | [] => List.replicate n 0
  | r :: t => ceil n ws r (val n ws t)
theorem ceil_len {n : Nat} {ws : List (List Int)} {row : List (Option Int)} {ah : List Int} : (ceil n ws row ah).length = n := by unfold ceil; rw [List.length_map, List.length_range]
theorem val_len {n : Nat} {ws : List (List Int)} : ∀ t, (val n ws t).length = n
  | [] => List.length_replicate
  | _ :: _ => ceil_len
theorem chs_mem {n : Nat} {ws : List (List Int)} {row : List (Option Int)} {ah : List Int} {s : Nat} {q : Int × Int} : q ∈ chs n ws row ah s ↔ ∃ p c, p < n ∧ row.getD p none = some c ∧ q = (mat ws s p + c + ah.getD p 0, (p : Int)) := by
  unfold chs
  rw [List.mem_filterMap]
  constructor
  · rintro ⟨p, hp, e⟩
    cases hc : row.getD p none with
    | none => rw [chF_none hc] at e; cases e
    | some c => rw [chF_some hc] at e; exact ⟨p, c, List.mem_range.mp hp, hc, (Option.some.inj e).symm⟩
  · rintro ⟨p, c, hp, hc, e⟩
    exact ⟨p, List.mem_range.mpr hp, by rw [chF_some hc, e]⟩
theorem chs_ne {n : Int} {top : Int} {ws : List (List Int)} {row : List (Option Int)} {ah : List Int} {s : Nat} (h : Prices n top row) : chs n.toNat ws row ah s ≠ [] := by
  obtain ⟨x, hx⟩ := h.some
  obtain ⟨p, hp⟩ := List.mem_iff_getElem?.mp hx
  have hl := (List.getElem?_eq_some_iff.mp hp).1
  have := h.len
  refine List.ne_nil_of_mem (chs_mem.mpr ⟨p, x, by omega, ?_, rfl⟩)
  rw [List.getD_eq_getElem?_getD, hp]; rfl
theorem chs_none {n : Nat} {ws : List (List Int)} {row : List (Option Int)} {ah : List Int} {s : Nat} (h : row.getD n none = none) : chs (n + 1) ws row ah s = chs n ws row ah s := by
  unfold chs
  rw [List.range_succ, List.filterMap_append, List.filterMap_cons, chF_none h, List.filterMap_nil, List.append_nil]
theorem chs_some {n : Nat} {ws : List (List Int)} {row : List (Option Int)} {ah : List Int} {s : Nat} {c : Int} (h : row.getD n none = some c) : chs (n + 1) ws row ah s = chs n ws row ah s ++ [(mat ws s n + c + ah.getD n 0, (n : Int))] := by
  unfold chs
  rw [List.range_succ, List.filterMap_append, List.filterMap_cons, chF_some h, List.filterMap_nil]
theorem chs_len (n : Nat) (ws : List (List Int)) (row : List (Option Int)) (ah : List Int) (s : Nat) : (chs n ws row ah s).length ≤ n := by
  unfold chs
  exact Nat.le_trans (List.length_filterMap_le _ _) (Nat.le_of_eq List.length_range)
theorem getDat {α : Type} {xs : List α} {i : Nat} (d : α) (h : i < xs.length) : xs[i]? = some (xs.getD i d) := by
  rw [List.getD_eq_getElem?_getD, List.getElem?_eq_getElem h]; rfl
/-- a pair of two ints -/
def PrT (H : Hp) (v : V) (p : Int × Int) : Prop := IntT H v [p.1, p.2]
theorem PrT.firm : Firm PrT := fun H H' v p k h => IntT.firm H H' v _ k h
def pd (p : Int × Int) : PyData := .tuple [.int p.1, .int p.2]
theorem dp_pairs {K : PySem.W.Frag} {H : Hp} : ∀ {vs : List V} {ps : List (Int × Int)}, Paired (PrT H) vs ps → DpAll K H vs (ps.map pd)
  | _, _, .nil => .nil
  | _, _, .cons r t => by
    obtain ⟨a, rfl, ha⟩ := r
    exact .cons (.tup (SqT.of ha) (.cons (.int _) (.cons (.int _) .nil))) (dp_pairs t)
theorem alike_pairs (ps : List (Int × Int)) : PySem.W.AlikeAll (ps.map pd) := by
  refine ⟨fun x hx y hy => ?_, fun x hx => ?_⟩
  · obtain ⟨p, _, rfl⟩ := List.mem_map.mp hx
    obtain ⟨q, _, rfl⟩ := List.mem_map.mp hy
    simp [pd, PySem.W.alike, PySem.W.alikeAll]
  · obtain ⟨p, _, rfl⟩ := List.mem_map.mp hx
    intro h; cases h
theorem depth_pairs : ∀ ps : List (Int × Int), PyData.depthAll (ps.map pd) ≤ 60
  | [] => by simp [PyData.depthAll]
  | p :: ps => by
    have := depth_pairs ps
    simp only [List.map_cons, PyData.depthAll, pd, PyData.depth]
    omega
/-- less, for pairs -/
def ltP (p q : Int × Int) : Prop := p.1 < q.1 ∨ (p.1 = q.1 ∧ p.2 < q.2)
theorem minD_pairs (ps : List (Int × Int)) : ∀ p, ∃ q, PySem.W.minD (pd p) (ps.map pd) = pd q ∧ q ∈ p :: ps ∧ ∀ r ∈ p :: ps, q.1 ≤ r.1 := by
  induction ps with
  | nil => intro p; exact ⟨p, rfl, List.mem_cons_self, fun r hr => by rw [List.mem_singleton.mp hr]; exact Int.le_refl _⟩
  | cons z t ih =>
    intro p
    have e : PySem.W.minD (pd p) ((z :: t).map pd) = PySem.W.minD (if PySem.W.dataLt (pd z) (pd p) then pd z else pd p) (t.map pd) := rfl
    have el : PySem.W.dataLt (pd z) (pd p) = decide (z.1 < p.1 ∨ (z.1 = p.1 ∧ z.2 < p.2)) := PySem.W.dataLt_ii _ _ _ _
    rw [e, el]
    by_cases h : z.1 < p.1 ∨ (z.1 = p.1 ∧ z.2 < p.2)
    · rw [decide_eq_true h, if_pos rfl]
      obtain ⟨q, h1, h2, h3⟩ := ih z
      refine ⟨q, h1, List.mem_cons_of_mem _ h2, fun r hr => ?_⟩
      rcases List.mem_cons.mp hr with e | hr
      · subst e
        have := h3 z List.mem_cons_self
        omega
      · exact h3 r hr
    · rw [decide_eq_false h, if_neg (by simp)]
      obtain ⟨q, h1, h2, h3⟩ := ih p
      refine ⟨q, h1, ?_, fun r hr => ?_⟩
      · rcases List.mem_cons.mp h2 with e | h2
        · rw [e]; exact List.mem_cons_self
        · exact List.mem_cons_of_mem _ (List.mem_cons_of_mem _ h2)
      · rcases List.mem_cons.mp hr with e | hr
        · subst e; exact h3 _ List.mem_cons_self
        · rcases List.mem_cons.mp hr with e | hr
          · subst e
            have := h3 p List.mem_cons_self
            omega
          · exact h3 r (List.mem_cons_of_mem _ hr)
/-- the reading of min of such a list -/
theorem min_pairs {K : PySem.W.Frag} {H : Hp} {l : Addr} {us : List V} {ps : List (Int × Int)} {Q : VK} (hl : H l = some (.lst us)) (hp : Paired (PrT H) us ps) (hne : ps ≠ [])
    (h : ∀ v q, PrT H v q → q ∈ ps → q.1 = minL (ps.map (·.1)) → Q v H) : rMinD K [.ref l] H Q := by
  cases ps with
  | nil => exact absurd rfl hne
  | cons p ps =>
    refine ⟨l, us, pd p, ps.map pd, rfl, SqL.of hl, dp_pairs hp, alike_pairs (p :: ps), depth_pairs (p :: ps), fun i v hv hd => ?_⟩
    obtain ⟨q, e, hq, hmin⟩ := minD_pairs ps p
    rw [e] at hd
    obtain ⟨q', hq', hv'⟩ := prd_at1 hp hv
    have : ((p :: ps).map pd)[i]? = some (pd q) := hd
    rw [List.getElem?_map, hq'] at this
    have eq1 : pd q' = pd q := Option.some.inj this
    have eq2 : q' = q := by
      unfold pd at eq1
      injection eq1 with a
      injection a with b c
      injection b with b
      injection c with c _
      injection c with c
      exact Prod.ext b c
    subst eq2
    refine h v q' hv' hq (minL_eq (List.mem_map.mpr ⟨q', hq, rfl⟩) ?_).symm
    intro y hy
    obtain ⟨r, hr, rfl⟩ := List.mem_map.mp hy
    exact hmin r hr
/-! promises -/
def spPricesM (C : Addr) : Sp := fun vs H Q _ => ∃ (p : Addr) (S : Sys) (z : Str) (row : List (Option Int)), vs = [.ref p, .str z] ∧ SysOk S ∧ SysAt C H p S ∧ (z, row) ∈ S.rs ∧ ∀ v, OptT H v row → Q v H
def RowAt (H : Hp) (v : V) (zs : List Str) : Prop := ∃ a, v = .ref a ∧ (H a = some (.tup (zs.map V.str)) ∨ H a = some (.lst (zs.map V.str)))
def spCheckRow (C : Addr) : Sp := fun vs H Q _ => ∃ (p : Addr) (S : Sys) (v : V) (zs : List Str), vs = [.ref p, v] ∧ SysOk S ∧ SysAt C H p S ∧ RowAt H v zs ∧ (∀ z ∈ zs, z ∈ S.rs.map (·.1)) ∧ ∀ H', Same H H' → Q .non H'
def spChoices (C : Addr) : Sp := fun vs H Q _ => ∃ (p : Addr) (S : Sys) (z : Str) (row : List (Option Int)) (s : Nat) (v : V) (ah : List Int), vs = [.ref p, .int s, .str z, v] ∧ SysOk S ∧ SysAt C H p S ∧ (z, row) ∈ S.rs ∧ (s : Int) < S.n ∧ IntT H v ah ∧ (ah.length : Int) = S.n ∧
  ∀ l us H', Same H H' → H' l = some (.lst us) → Paired (PrT H') us (chs S.n.toNat S.ws row ah s) → Q (.ref l) H'
def spCeilings (C : Addr) : Sp := fun vs H Q _ => ∃ (p : Addr) (S : Sys) (z : Str) (row : List (Option Int)) (v : V) (ah : List Int), vs = [.ref p, .str z, v] ∧ SysOk S ∧ SysAt C H p S ∧ (z, row) ∈ S.rs ∧ IntT H v ah ∧ (ah.length : Int) = S.n ∧
  ∀ v' H', Same H H' → IntT H' v' (ceil S.n.toNat S.ws row ah) → Q v' H'
end Toy

namespace Toy
open PySem PySem.Spec PyProof.Rows L2
/-- a service of some rows: where one went, what it cost, where one stands -/
inductive Run (n : Nat) (ws : List (List Int)) : List (List (Option Int)) → List Nat → Int → Nat → Prop
  | nil : Run n ws [] [] 0 0
  | snoc {rs : List (List (Option Int))} {ps : List Nat} {c : Int} {a : Nat} {r : List (Option Int)} {p : Nat} {k : Int} : Run n ws rs ps c a → p < n → r.getD p none = some k → Run n ws (rs ++ [r]) (ps ++ [p]) (c + mat ws a p + k) p
theorem Run.lt {n : Nat} (hn : 0 < n) {ws : List (List Int)} {rs : List (List (Option Int))} {ps : List Nat} {c : Int} {a : Nat} (h : Run n ws rs ps c a) : a < n := by
  cases h with
  | nil => exact hn
  | snoc _ hp _ => exact hp
theorem Run.len {n : Nat} {ws : List (List Int)} {rs : List (List (Option Int))} {ps : List Nat} {c : Int} {a : Nat} (h : Run n ws rs ps c a) : ps.length = rs.length := by
  induction h with
  | nil => rfl
  | snoc _ _ _ ih => simp [ih]
theorem Run.fn {n : Nat} {ws : List (List Int)} {rs : List (List (Option Int))} {ps : List Nat} {c : Int} {a : Nat} (h : Run n ws rs ps c a) : ∀ {c' : Int} {a' : Nat}, Run n ws rs ps c' a' → c = c' ∧ a = a' := by
  induction h with
  | nil =>
    intro c' a' h'
    generalize e1 : ([] : List (List (Option Int))) = rs at h'
    generalize e2 : ([] : List Nat) = ps at h'
    cases h' with
    | nil => exact ⟨rfl, rfl⟩
    | snoc _ _ _ => simp at e1
  | @snoc rs ps c a r p k _ hp hk ih =>
    intro c' a' h'
    generalize e1 : rs ++ [r] = rs' at h'
    generalize e2 : ps ++ [p] = ps' at h'
    cases h' with
    | nil => simp at e1
    | @snoc rs₂ ps₂ c₂ a₂ r₂ p₂ k₂ h2 hp2 hk2 =>
      obtain ⟨q1, q2⟩ := List.append_inj' e1 rfl
      obtain ⟨q3, q4⟩ := List.append_inj' e2 rfl
      subst q1; subst q3
      obtain rfl : r = r₂ := by simpa using q2
      obtain rfl : p = a' := by simpa using q4
      obtain ⟨rfl, rfl⟩ := ih h2
      rw [hk] at hk2
      obtain rfl := Option.some.inj hk2
      exact ⟨rfl, rfl⟩
theorem Run.congr {n : Nat} (hn : 0 < n) {ws ws' : List (List Int)} (e : ∀ i j, i < n → j < n → mat ws i j = mat ws' i j) {rs : List (List (Option Int))} {ps : List Nat} {c : Int} {a : Nat} (h : Run n ws rs ps c a) : Run n ws' rs ps c a := by
  induction h with
  | nil => exact .nil
  | snoc h0 hp hk ih =>
    rw [e _ _ (h0.lt hn) hp]
    exact .snoc ih hp hk
/-- the last step -/
theorem Run.inv {n : Nat} {ws : List (List Int)} {rs : List (List (Option Int))} {r : List (Option Int)} {ps' : List Nat} {c : Int} {a : Nat} (h : Run n ws (rs ++ [r]) ps' c a) : ∃ ps c0 a0 k, ps' = ps ++ [a] ∧ Run n ws rs ps c0 a0 ∧ a < n ∧ r.getD a none = some k ∧ c = c0 + mat ws a0 a + k := by
  generalize e1 : rs ++ [r] = rs' at h
  cases h with
  | nil => simp at e1
  | @snoc rs₂ ps₂ c₂ a₂ r₂ p₂ k₂ h2 hp2 hk2 =>
    obtain ⟨q1, q2⟩ := List.append_inj' e1 rfl
    subst q1
    obtain rfl : r = r₂ := by simpa using q2
    exact ⟨ps₂, c₂, a₂, k₂, rfl, h2, hp2, hk2, rfl⟩
theorem Run.take {n : Nat} {ws : List (List Int)} {rs : List (List (Option Int))} {ps : List Nat} {c : Int} {a : Nat} (h : Run n ws rs ps c a) : ∀ k, ∃ c' a', Run n ws (rs.take k) (ps.take k) c' a' := by
  induction h with
  | nil => intro k; exact ⟨0, 0, by simpa using Run.nil⟩
  | @snoc rs ps c a r p k' h0 hp hk ih =>
    intro k
    have hl := h0.len
    by_cases hk2 : k ≤ rs.length
    · rw [List.take_append_of_le_length hk2, List.take_append_of_le_length (by omega)]
      exact ih k
    · rw [List.take_of_length_le (by simp; omega), List.take_of_length_le (by simp; omega)]
      exact ⟨_, _, .snoc h0 hp hk⟩
theorem ceil_at {n : Nat} {ws : List (List Int)} {row : List (Option Int)} {ah : List Int} {s : Nat} (h : s < n) : (ceil n ws row ah).getD s 0 = minL ((chs n ws row ah s).map (·.1)) := by
  unfold ceil
  rw [List.getD_eq_getElem?_getD, List.getElem?_map, List.getElem?_range h]
  rfl
theorem ceil_le {n : Nat} {ws : List (List Int)} {row : List (Option Int)} {ah : List Int} {s p : Nat} {k : Int} (h : s < n) (hp : p < n) (hk : row.getD p none = some k) : (ceil n ws row ah).getD s 0 ≤ mat ws s p + k + ah.getD p 0 := by
  rw [ceil_at h]
  exact minL_le (List.mem_map.mpr ⟨_, chs_mem.mpr ⟨p, k, hp, hk, rfl⟩, rfl⟩)
/-- no service is cheaper -/
theorem Run.low {n : Nat} (hn : 0 < n) {ws : List (List Int)} {rs : List (List (Option Int))} {ps : List Nat} {c : Int} {a : Nat} (h : Run n ws rs ps c a) : ∀ rest, (val n ws (rs ++ rest)).getD 0 0 ≤ c + (val n ws rest).getD a 0 := by
  induction h with
  | nil => intro rest; simp
  | @snoc rs ps c a r p k h0 hp hk ih =>
    intro rest
    have h1 := ih (r :: rest)
    rw [List.append_assoc]
    have h2 := ceil_le (ws := ws) (ah := val n ws rest) (h0.lt hn) hp hk
    have h3 : (val n ws (r :: rest)).getD a 0 = (ceil n ws r (val n ws rest)).getD a 0 := rfl
    rw [h3] at h1
    have h4 : rs ++ r :: rest = rs ++ ([r] ++ rest) := rfl
    rw [h4] at h1
    omega
theorem val_nil {n : Nat} {ws : List (List Int)} {a : Nat} : (val n ws []).getD a 0 = 0 := by
  unfold val
  rw [List.getD_eq_getElem?_getD, List.getElem?_replicate]
  split <;> rfl
theorem Run.ge {n : Nat} (hn : 0 < n) {ws : List (List Int)} {rs : List (List (Option Int))} {ps : List Nat} {c : Int} {a : Nat} (h : Run n ws rs ps c a) : (val n ws rs).getD 0 0 ≤ c := by
  have := h.low hn []
  rw [List.append_nil, val_nil] at this
  omega
def vals (n : Nat) (ws : List (List Int)) : List (List (Option Int)) → List (List Int)
  | [] => [val n ws []]
  | r :: t => val n ws (r :: t) :: vals n ws t
theorem vals_len {n : Nat} {ws : List (List Int)} : ∀ rs, (vals n ws rs).length = rs.length + 1
  | [] => rfl
  | _ :: t => by simp [vals, vals_len t]
theorem vals_at {n : Nat} {ws : List (List Int)} : ∀ (rs : List (List (Option Int))) (i : Nat), i ≤ rs.length → (vals n ws rs)[i]? = some (val n ws (rs.drop i))
  | [], 0, _ => rfl
  | r :: t, 0, _ => rfl
  | r :: t, i + 1, h => by
    have := vals_at (n := n) (ws := ws) t i (by simpa using h)
    simpa [vals] using this
  | [], i + 1, h => by simp at h
/-- the rows of the names -/
def RowsOf (S : Sys) (zs : List Str) (rs : List (List (Option Int))) : Prop := Paired (fun z r => (z, r) ∈ S.rs) zs rs
theorem prd_rev {α β : Type} {F : α → β → Prop} {xs : List α} {ys : List β} (h : Paired F xs ys) : Paired F xs.reverse ys.reverse := by
  induction h with
  | nil => exact .nil
  | cons r _ ih =>
    rw [List.reverse_cons, List.reverse_cons]
    exact Paired.snoc ih r
def spFloor (C : Addr) : Sp := fun vs H Q _ => ∃ (p : Addr) (S : Sys) (v : V) (zs : List Str) (rs : List (List (Option Int))), vs = [.ref p, v] ∧ SysOk S ∧ SysAt C H p S ∧ RowAt H v zs ∧ RowsOf S zs rs ∧ zs.length ≤ 900 ∧
  ∀ l ts H', Same H H' → H l = none → H' l = some (.lst ts) → Paired (IntT H') ts (vals S.n.toNat S.ws rs) → Q (.ref l) H'
def spWisest (C : Addr) : Sp := fun vs H Q _ => ∃ (p : Addr) (S : Sys) (v : V) (zs : List Str) (rs : List (List (Option Int))), vs = [.ref p, v] ∧ SysOk S ∧ SysAt C H p S ∧ RowAt H v zs ∧ RowsOf S zs rs ∧ zs.length ≤ 900 ∧
  ∀ (t t2 : Addr) (ps : List Nat) (c : Int) (a : Nat) (H' : Hp), Same H H' → H' t = some (.tup [.int c, .ref t2]) → H' t2 = some (.tup ((ps.map fun x => ((x : Nat) : Int)).map V.int)) → Run S.n.toNat S.ws rs ps c a → c = (val S.n.toNat S.ws rs).getD 0 0 → Q (.ref t) H'
theorem walk_revT {K : PySem.W.Frag} {a : Addr} {xs : List V} : Walk (RT.ItvT K a xs.length) xs.length (fun H => SqT K H a xs) (fun i H x H' => H' = H ∧ xs[xs.length - 1 - i]? = some x) :=
  ⟨fun i _ hi q => ⟨hi, xs, xs[xs.length - 1 - i]'(by omega), q, by simp [show xs.length - 1 - i < xs.length by omega]⟩, fun _ _ => Nat.le_refl _, fun _ _ _ _ _ q y => ⟨y.1, y.2 xs q⟩⟩
/-- a list of lists of ints that is read -/
structure LM (H : Hp) (L : Addr) (n : Nat) (M : Nat → Nat → Int) : Prop where
  ex : ∃ as : List Addr, H L = some (.lst (as.map V.ref)) ∧ as.length = n ∧ ∀ (i : Nat) a, as[i]? = some a → H a = some (.lst (rowV n (M i)))
theorem LM.same {H H' : Hp} {L : Addr} {n : Nat} {M : Nat → Nat → Int} (m : LM H L n M) (k : Same H H') : LM H' L n M := by
  obtain ⟨as, h1, h2, h3⟩ := m.ex
  exact ⟨as, k _ _ h1, h2, fun i a e => k _ _ (h3 i a e)⟩
def spLawWays : Sp := fun vs H Q _ => ∃ (v : V) (rows : List (List Int)) (n top : Int), vs = [v] ∧ TupT IntT H v rows ∧ Square n top rows ∧ 1 ≤ n ∧ n ≤ 100 ∧
  ∀ L M H', Same H H' → LM H' L n.toNat M → Least n.toNat (mat rows) M → Q (.ref L) H'
def prodM (n : Nat) (M R : Nat → Nat → Int) : Nat → Nat → Int := fun i j => minL ((List.range n).map fun c => M i c + R c j)
theorem prodM_le {n : Nat} {M R : Nat → Nat → Int} {i j c : Nat} (h : c < n) : prodM n M R i j ≤ M i c + R c j := minL_le (List.mem_map.mpr ⟨c, List.mem_range.mpr h, rfl⟩)
theorem prodM_has {n : Nat} {M R : Nat → Nat → Int} {i j : Nat} (h : 0 < n) : ∃ c, c < n ∧ prodM n M R i j = M i c + R c j := by
  have hne : (List.range n).map (fun c => M i c + R c j) ≠ [] := by
    intro e
    have := congrArg List.length e
    rw [List.length_map, List.length_range] at this
    simp at this
    omega
  obtain ⟨c, hc, e⟩ := List.mem_map.mp (minL_mem hne)
  exact ⟨c, List.mem_range.mp hc, e.symm⟩
/-- the requests of a dict, in rows -/
structure ReqAt (H : Hp) (d : Addr) (n : Int) (rs0 : List (Str × List (Option Int))) : Prop where
  ex : ∃ kvs, H d = some (.dK kvs) ∧ DctOf OptT H kvs rs0
  nd : (rs0.map (·.1)).Nodup
  pr : ∀ q ∈ rs0, Prices n 9 q.2
theorem ReqAt.same {H H' : Hp} {d : Addr} {n : Int} {rs0 : List (Str × List (Option Int))} (r : ReqAt H d n rs0) (k : Same H H') : ReqAt H' d n rs0 := by
  obtain ⟨kvs, h1, h2⟩ := r.ex
  exact ⟨⟨kvs, k _ _ h1, h2.firm OptT.firm (same_tups k)⟩, r.nd, r.pr⟩
theorem ReqAt.get {H : Hp} {d : Addr} {n : Int} {rs0 : List (Str × List (Option Int))} (r : ReqAt H d n rs0) {z : Str} {row : List (Option Int)} (h : (z, row) ∈ rs0) : ∃ a, DGet H d (.str z) (some (.ref a)) ∧ H a = some (.tup (row.map vO)) := by
  obtain ⟨kvs, h1, h2⟩ := r.ex
  obtain ⟨v, hv, a, rfl, ha⟩ := dct_some h2 r.nd h
  exact ⟨a, by rw [← hv]; exact DGet.k (k := Sum.inr z) h1, ha⟩
/-- all services one request longer -/
def extF (M : Nat → Nat → Int) (r : List (Option Int)) (q : Int × Int) (p : Nat) : Option (Int × Int) := match r.getD p none with
  | some k => some (q.1 + M q.2.toNat p + k, (p : Int))
  | none => none
theorem extF_none {M : Nat → Nat → Int} {r : List (Option Int)} {q : Int × Int} {p : Nat} (h : r.getD p none = none) : extF M r q p = none := by unfold extF; rw [h]
theorem extF_some {M : Nat → Nat → Int} {r : List (Option Int)} {q : Int × Int} {p : Nat} {k : Int} (h : r.getD p none = some k) : extF M r q p = some (q.1 + M q.2.toNat p + k, (p : Int)) := by unfold extF; rw [h]
def ext1 (n : Nat) (M : Nat → Nat → Int) (r : List (Option Int)) (q : Int × Int) : List (Int × Int) := (List.range n).filterMap (extF M r q)
def extA (n : Nat) (M : Nat → Nat → Int) (r : List (Option Int)) (fs : List (Int × Int)) : List (Int × Int) := fs.flatMap (ext1 n M r)
theorem ext1_len (n : Nat) (M : Nat → Nat → Int) (r : List (Option Int)) (q : Int × Int) : (ext1 n M r q).length ≤ n := by
  unfold ext1
  exact Nat.le_trans (List.length_filterMap_le _ _) (Nat.le_of_eq List.length_range)
theorem extA_len (n : Nat) (M : Nat → Nat → Int) (r : List (Option Int)) : ∀ fs : List (Int × Int), (extA n M r fs).length ≤ fs.length * n
  | [] => by simp [extA]
  | q :: fs => by
    have h1 := extA_len n M r fs
    have h2 := ext1_len n M r q
    unfold extA at h1 ⊢
    rw [List.flatMap_cons, List.length_append, List.length_cons, Nat.add_mul, Nat.one_mul]
    omega
theorem extA_app (n : Nat) (M : Nat → Nat → Int) (r : List (Option Int)) (fs : List (Int × Int)) (q : Int × Int) : extA n M r (fs ++ [q]) = extA n M r fs ++ ext1 n M r q := by
  unfold extA
  rw [List.flatMap_append, List.flatMap_cons, List.flatMap_nil, List.append_nil]
theorem extA_mem {n : Nat} {M : Nat → Nat → Int} {r : List (Option Int)} {fs : List (Int × Int)} {y : Int × Int} : y ∈ extA n M r fs ↔ ∃ q ∈ fs, ∃ p k, p < n ∧ r.getD p none = some k ∧ y = (q.1 + M q.2.toNat p + k, (p : Int)) := by
  unfold extA
  rw [List.mem_flatMap]
  constructor
  · rintro ⟨q, hq, hy⟩
    unfold ext1 at hy
    obtain ⟨p, hp, e⟩ := List.mem_filterMap.mp hy
    cases hc : r.getD p none with
    | none => rw [extF_none hc] at e; cases e
    | some k => rw [extF_some hc] at e; exact ⟨q, hq, p, k, List.mem_range.mp hp, hc, (Option.some.inj e).symm⟩
  · rintro ⟨q, hq, p, k, hp, hc, e⟩
    exact ⟨q, hq, List.mem_filterMap.mpr ⟨p, List.mem_range.mpr hp, by rw [extF_some hc, e]⟩⟩
/-- found: all services so far -/
structure Found (n : Nat) (ws : List (List Int)) (rs : List (List (Option Int))) (fs : List (Int × Int)) : Prop where
  snd : ∀ q ∈ fs, ∃ ps a, q.2 = ((a : Nat) : Int) ∧ Run n ws rs ps q.1 a
  cpl : ∀ ps c a, Run n ws rs ps c a → (c, ((a : Nat) : Int)) ∈ fs
theorem Found.step {n : Nat} (hn : 0 < n) {ws : List (List Int)} {M : Nat → Nat → Int} (e : ∀ i j, i < n → j < n → M i j = mat ws i j) {rs : List (List (Option Int))} {fs : List (Int × Int)} (f : Found n ws rs fs) (r : List (Option Int)) : Found n ws (rs ++ [r]) (extA n M r fs) := by
  refine ⟨fun y hy => ?_, fun ps c a h => ?_⟩
  · obtain ⟨q, hq, p, k, hp, hk, rfl⟩ := extA_mem.mp hy
    obtain ⟨ps, a, ea, hr⟩ := f.snd q hq
    refine ⟨ps ++ [p], p, rfl, ?_⟩
    rw [ea, Int.toNat_natCast, e _ _ (hr.lt hn) hp]
    exact .snoc hr hp hk
  · obtain ⟨ps0, c0, a0, k, rfl, hr, ha, hk, rfl⟩ := h.inv
    refine extA_mem.mpr ⟨(c0, (a0 : Int)), f.cpl _ _ _ hr, a, k, ha, hk, ?_⟩
    rw [Int.toNat_natCast, e _ _ (hr.lt hn) ha]
theorem extA_ne {n : Int} {M : Nat → Nat → Int} {r : List (Option Int)} {fs : List (Int × Int)} (h : Prices n 9 r) (hf : fs ≠ []) : extA n.toNat M r fs ≠ [] := by
  obtain ⟨x, hx⟩ := h.some
  obtain ⟨p, hp⟩ := List.mem_iff_getElem?.mp hx
  have hl := (List.getElem?_eq_some_iff.mp hp).1
  have hn := h.len
  cases fs with
  | nil => exact absurd rfl hf
  | cons q t =>
    exact List.ne_nil_of_mem (extA_mem.mpr ⟨q, List.mem_cons_self, p, x, by omega, by rw [List.getD_eq_getElem?_getD, hp]; rfl, rfl⟩)
def spLawServices : Sp := fun vs H Q _ => ∃ (L d l : Addr) (M : Nat → Nat → Int) (n : Int) (rs0 : List (Str × List (Option Int))) (zs : List Str) (rs : List (List (Option Int))) (ws : List (List Int)), vs = [.ref L, .ref d, .ref l] ∧ LM H L n.toNat M ∧ 1 ≤ n ∧ n ≤ 6 ∧
  (∀ i j, i < n.toNat → j < n.toNat → M i j = mat ws i j) ∧ ReqAt H d n rs0 ∧ H l = some (.lst (zs.map V.str)) ∧ Paired (fun z r => (z, r) ∈ rs0) zs rs ∧ zs.length ≤ 6 ∧
  ∀ (m : Int) (H' : Hp), Same H H' → (∃ ps a, Run n.toNat ws rs ps m a) → (∀ ps c a, Run n.toNat ws rs ps c a → m ≤ c) → Q (.int m) H'
def spLawPrice : Sp := fun vs H Q _ => ∃ (L d l t : Addr) (M : Nat → Nat → Int) (n : Int) (rs0 : List (Str × List (Option Int))) (zs : List Str) (rs : List (List (Option Int))) (ws : List (List Int)) (ps : List Nat) (c : Int) (a : Nat), vs = [.ref L, .ref d, .ref l, .ref t] ∧ LM H L n.toNat M ∧ 1 ≤ n ∧ n ≤ 6 ∧
  (∀ i j, i < n.toNat → j < n.toNat → M i j = mat ws i j) ∧ ReqAt H d n rs0 ∧ H l = some (.lst (zs.map V.str)) ∧ Paired (fun z r => (z, r) ∈ rs0) zs rs ∧ zs.length ≤ 900 ∧ H t = some (.tup ((ps.map fun x => ((x : Nat) : Int)).map V.int)) ∧ Run n.toNat ws rs ps c a ∧
  ∀ H', Same H H' → Q (.int c) H'
def spLawRow : Sp := fun vs H Q _ => ∃ (d c l : Addr) (zs : List Str) (m : Int), vs = [.ref d, .ref l, .int m] ∧ Dice c H d ∧ H l = some (.lst (zs.map V.str)) ∧ l ≠ d ∧ 1 ≤ zs.length ∧ zs.length ≤ 1000 ∧ 0 ≤ m ∧ m ≤ 900 ∧
  ∀ (R : Addr) (ys : List Str) (H' : Hp), H R = none → H' R = some (.lst (ys.map V.str)) → (ys.length : Int) ≤ m → (∀ y ∈ ys, y ∈ zs) → Keep d H H' → Dice c H' d → Q (.ref R) H'
end Toy

namespace Toy
open PySem PySem.Spec PyProof.Rows L2
section
variable {X : Cx}
/-! flags by their identity -/
def rIsB : R2 := fun x y H Q => ∃ b c, x = .bl b ∧ y = .bl c ∧ Q (.bl (b == c)) H
def rNotB : R2 := fun x y H Q => ∃ b c, x = .bl b ∧ y = .bl c ∧ Q (.bl (b != c)) H
theorem op_isB : OpR X (compareOp .Is) rIsB := by
  intro pins s σ H x y v u Q I rx ry h
  obtain ⟨b, c, rfl, rfl, q⟩ := h
  cases rx
  cases ry
  exact is_bool (fin_bl I q rfl)
theorem op_notB : OpR X (compareOp .IsNot) rNotB := by
  intro pins s σ H x y v u Q I rx ry h
  obtain ⟨b, c, rfl, rfl, q⟩ := h
  cases rx
  cases ry
  exact isnot_bool (fin_bl I q rfl)
/-! the greatest of a tuple of ints -/
theorem dp_ints {K : PySem.W.Frag} {H : Hp} : ∀ ns : List Int, DpAll K H (ns.map V.int) (ns.map PyData.int)
  | [] => .nil
  | n :: r => .cons (.int n) (dp_ints r)
theorem alike_ints (ns : List Int) : PySem.W.AlikeAll (ns.map PyData.int) := by
  constructor
  · intro x hx y hy
    obtain ⟨i, _, rfl⟩ := List.mem_map.mp hx
    obtain ⟨j, _, rfl⟩ := List.mem_map.mp hy
    simp [PySem.W.alike]
  · intro x hx
    obtain ⟨i, _, rfl⟩ := List.mem_map.mp hx
    intro z; cases z
theorem depth_ints : ∀ ns : List Int, PyData.depthAll (ns.map PyData.int) ≤ 1
  | [] => by simp [PyData.depthAll]
  | n :: r => by
    have := depth_ints r
    simp only [List.map_cons, PyData.depthAll, PyData.depth]
    omega
def rMaxT (K : PySem.W.Frag) : List V → Hp → VK → Prop := fun vs H Q => ∃ (a : Addr) (k : Int) (ks : List Int), vs = [V.ref a] ∧ SqT K H a ((k :: ks).map V.int) ∧ Q (.int (ks.foldl max k)) H
theorem cr_maxT (hc : X.calm = true) (hu : X.A.units + 64 < cLine) : CallR X (.builtin "max") (rMaxT X.K) := by
  intro pins s σ H vs us Q I r h
  obtain ⟨a, k, ks, rfl, hs, q⟩ := h
  obtain ⟨u, rfl, ru⟩ := vals1 r
  obtain rfl : u = Value.ref a := ru
  obtain ⟨its, rv, p, _⟩ := I.tuple hs
  obtain ⟨as, hr⟩ := Dp.readsAll I ((k :: ks).map PyData.int) ((k :: ks).map V.int) its (dp_ints _) rv
  have hd := depth_ints (k :: ks)
  refine PySem.W.max_tuple_data (x := PyData.int k) (xs := ks.map PyData.int) (I.ok.hd hc) p (by simpa using hr) (alike_ints (k :: ks)) (by
    have : PyData.depthAll (PyData.int k :: ks.map PyData.int) ≤ 1 := hd
    omega) fun i v h' tk bs hv hrd hk => ?_
  rw [PySem.W.maxD_ints] at hrd
  rw [List.getElem?_toArray] at hv
  obtain ⟨x, hx, rx⟩ := prd_at2 rv hv
  obtain ⟨j, _, rfl⟩ := map_at hx
  obtain ⟨t, rfl⟩ := rx
  have e := (hrd.unique _ _ (Reads.int j t)).1
  cases e
  exact ⟨.int _, H, I.kept (t' := tk) hk, ⟨t, rfl⟩, q⟩
end
theorem walk_zipT {K : PySem.W.Frag} {a b : Addr} {xs ys : List V} {n : Nat} (hn : n = min xs.length ys.length) : Walk (RZ.ItzT K a b) n (fun H => SqT K H a xs ∧ SqT K H b ys) (YPair (fun i => xs[i]?) (fun i => ys[i]?)) := by
  subst hn
  refine ⟨fun i _ hi q => ?_, fun _ q => ⟨xs, ys, q.1, q.2, by omega⟩, fun i H v H' _ q y => ?_⟩
  · have h1 : i < xs.length := by omega
    have h2 : i < ys.length := by omega
    exact ⟨xs, ys, xs[i], ys[i], q.1, q.2, by simp [h1], by simp [h2]⟩
  · obtain ⟨T, x, z, h1, h2, h3, h4, h5⟩ := y
    exact ⟨T, x, z, h1, h2, h3, h4 xs q.1, h5 ys q.2⟩
theorem max_zeros : ∀ n : Nat, (List.replicate n (0 : Int)).foldl max 0 = 0
  | 0 => rfl
  | n + 1 => by rw [List.replicate_succ, List.foldl_cons]; exact max_zeros n
end Toy

namespace Toy
open PySem PySem.Spec PyProof.Rows L2
/-! zip of three tuples -/
def Itz3 (K : PySem.W.Frag) (a b e : Addr) : It :=
  ⟨fun i H => ∃ (xs ys zs : List V) (x y u : V), SqT K H a xs ∧ SqT K H b ys ∧ SqT K H e zs ∧ xs[i]? = some x ∧ ys[i]? = some y ∧ zs[i]? = some u,
    fun i H v H' => ∃ T x y u, v = .ref T ∧ H T = none ∧ H' = upd H T (.tup [x, y, u]) ∧ (∀ xs, SqT K H a xs → xs[i]? = some x) ∧ (∀ ys, SqT K H b ys → ys[i]? = some y) ∧ ∀ zs, SqT K H e zs → zs[i]? = some u,
    fun i H => ∃ xs ys zs : List V, SqT K H a xs ∧ SqT K H b ys ∧ SqT K H e zs ∧ xs.length = i ∧ ys.length = i ∧ zs.length = i⟩
theorem turn_zip3 {P : Program} {w : World} {K : PySem.W.Frag} {elts : List Expr} {kk : Nat} {tpos : Pos} {a b e z TI TO i1 i2 i3 : Addr} (D : ZipSep3 z TI TO i1 i2 i3 [i1, a] [i2, b] [i3, e]) (na : a ≠ i1) (nb : b ≠ i2) (ne : e ≠ i3) :
    Turn P w K (.Tuple elts kk tpos) (Itz3 K a b e) [z, TI, TO, i1, i2, i3] z (fun i h => IsZip h z TI TO .none ∧ IsTupOf3 h TI (.ref i1) (.ref i2) (.ref i3) ∧ (∃ x y u, IsTupOf3 h TO x y u) ∧ h.IsTupleIter i1 a i ∧ h.IsTupleIter i2 b i ∧ h.IsTupleIter i3 e i) where
  mem := by simp
  obj := fun i h st c hc => by
    obtain ⟨hz, hTI, ⟨x, y, u, hTO⟩, ⟨o1, e1, _, d1⟩, ⟨o2, e2, _, d2⟩, ⟨o3, e3, _, d3⟩⟩ := st
    have e' : c = z ∨ c = TI ∨ c = TO ∨ c = i1 ∨ c = i2 ∨ c = i3 := by simpa using hc
    rcases e' with q | q | q | q | q | q
    · rw [q]; exact ⟨_, hz, fun v q => nomatch q⟩
    · rw [q]; exact ⟨_, hTI, fun v q => nomatch q⟩
    · rw [q]; exact ⟨_, hTO, fun v q => nomatch q⟩
    · rw [q]; exact ⟨o1, e1, fun v q => by rw [d1] at q; cases q⟩
    · rw [q]; exact ⟨o2, e2, fun v q => by rw [d2] at q; cases q⟩
    · rw [q]; exact ⟨o3, e3, fun v q => by rw [d3] at q; cases q⟩
  keep := fun i h h' st k => by
    obtain ⟨hz, hTI, ⟨x, y, u, hTO⟩, h1, h2, h3⟩ := st
    exact ⟨k z (by simp) _ hz, k TI (by simp) _ hTI, ⟨x, y, u, k TO (by simp) _ hTO⟩, h1.at fun o q => k i1 (by simp) o q, h2.at fun o q => k i2 (by simp) o q, h3.at fun o q => k i3 (by simp) o q⟩
  item := by
    intro X hP hw hK hc i pins s σ H E I hf st hg
    subst hP hw hK
    obtain ⟨hz, hTI, ⟨x0, y0, u0, hTO⟩, h1, h2, h3⟩ := st
    obtain ⟨xs, ys, zs, x, y, u, hqx, hqy, hqz, hx, hy, hu⟩ := hg
    obtain ⟨its, rv, p, _⟩ := I.tuple hqx
    obtain ⟨its2, rv2, p2, _⟩ := I.tuple hqy
    obtain ⟨its3, rv3, p3, _⟩ := I.tuple hqz
    obtain ⟨v1, hv1, r1⟩ := rv.get hx
    obtain ⟨v2, hv2, r2⟩ := rv2.get hy
    obtain ⟨v3, hv3, r3⟩ := rv3.get hu
    have hh : X.A.in1.handled = none := I.ok.hd hc
    have hzl : z < s.heap.objs.size := Heap.lt_size hz
    refine wpAny_pyNext_zipD3_item D (Draws.tuple (prog := X.prog) (w := X.w) hh i1 a na its.toArray) (Draws.tuple (prog := X.prog) (w := X.w) hh i2 b nb its2.toArray) (Draws.tuple (prog := X.prog) (w := X.w) hh i3 e ne its3.toArray) hz hTI hTO ⟨h1, p⟩ ⟨h2, p2⟩ ⟨h3, p3⟩
      (by rw [List.size_toArray]; exact (List.getElem?_eq_some_iff.mp hv1).1) (by rw [List.size_toArray]; exact (List.getElem?_eq_some_iff.mp hv2).1) (by rw [List.size_toArray]; exact (List.getElem?_eq_some_iff.mp hv3).1) fun w1 w2 w3 h' tk g1 g2 g3 z' TO' s1' s2' s3' hT hsz hk => ?_
    have q1 : w1 = v1 := by
      have g : its.toArray[i]? = some w1 := g1
      rw [List.getElem?_toArray, hv1] at g
      exact (Option.some.inj g).symm
    have q2 : w2 = v2 := by
      have g : its2.toArray[i]? = some w2 := g2
      rw [List.getElem?_toArray, hv2] at g
      exact (Option.some.inj g).symm
    have q3 : w3 = v3 := by
      have g : its3.toArray[i]? = some w3 := g3
      rw [List.getElem?_toArray, hv3] at g
      exact (Option.some.inj g).symm
    subst q1; subst q2; subst q3
    refine ⟨_, rfl, wpAny_letOwnedTupleGo_zip (s := { s with heap := h', toks := tk }) z' fun h'' z'' sb => ?_⟩
    have hT2 : h''.get? s.heap.objs.size = some { cls := .type "tuple", data := .seq #[w1, w2, w3] } := (sb.2 _ (Nat.ne_of_gt hzl)).trans hT
    have new : ObjOk X.prog X.w (upd H s.heap.objs.size (.tup [x, y, u])) h'' s.heap.objs.size (.tup [x, y, u]) :=
      ⟨(by show 3 ≤ sizeLine; decide), [w1, w2, w3], .cons r1 (.cons r2 (.cons r3 .nil)), ⟨_, hT2, rfl, _, rfl⟩⟩
    have I1 : Inv X pins σ (upd H s.heap.objs.size (.tup [x, y, u])) { s with heap := h'', toks := tk } :=
      I.turnedNew (ch := [z, TI, TO, i1, i2, i3]) (fun c o hb q => (sb.2 c (fun q' => hb (by simp [q']))).trans (hk c o (fun q' => hb (by simp [q'])) (fun q' => hb (by simp [q'])) (fun q' => hb (by simp [q'])) (fun q' => hb (by simp [q'])) (fun q' => hb (by simp [q'])) q)) hf (Nat.le_refl _) new
    refine ⟨.ref s.heap.objs.size, _, I1, rfl, ⟨_, x, y, u, rfl, I.hok.fresh (Nat.le_refl _), rfl, fun l hl => by rw [I.tuple_inj hl hqx]; exact hx, fun l hl => by rw [I.tuple_inj hl hqy]; exact hy, fun l hl => by rw [I.tuple_inj hl hqz]; exact hu⟩, ⟨z'', ?_, ⟨w1, w2, w3, ?_⟩, ?_, ?_, ?_⟩, fun c hcm => ?_⟩
    · exact (sb.2 _ D.TIz).trans (hk _ _ D.TIz D.TITO D.TIi1 D.TIi2 D.TIi3 hTI)
    · exact (sb.2 _ D.TOz).trans TO'
    · exact s1'.1.at fun o q => (sb.2 _ (Ne.symm D.zi1)).trans q
    · exact s2'.1.at fun o q => (sb.2 _ (Ne.symm D.zi2)).trans q
    · exact s3'.1.at fun o q => (sb.2 _ (Ne.symm D.zi3)).trans q
    · have hlt : c < s.heap.objs.size := by
        have e' : c = z ∨ c = TI ∨ c = TO ∨ c = i1 ∨ c = i2 ∨ c = i3 := by simpa using hcm
        rcases e' with q | q | q | q | q | q
        · rw [q]; exact hzl
        · rw [q]; exact Heap.lt_size hTI
        · rw [q]; exact Heap.lt_size hTO
        · rw [q]; obtain ⟨_, e1, _⟩ := h1; exact Heap.lt_size e1
        · rw [q]; obtain ⟨_, e2, _⟩ := h2; exact Heap.lt_size e2
        · rw [q]; obtain ⟨_, e2, _⟩ := h3; exact Heap.lt_size e2
      rw [upd_ne (Nat.ne_of_lt hlt)]
      exact (hf c hcm).1
  done := by
    intro X hP hw hK hc i pins s σ H E I hf st hg
    subst hP hw hK
    obtain ⟨hz, hTI, ⟨x0, y0, u0, hTO⟩, h1, h2, h3⟩ := st
    obtain ⟨xs, ys, zs, hqx, hqy, hqz, l1, l2, l3⟩ := hg
    obtain ⟨its, rv, p, _⟩ := I.tuple hqx
    obtain ⟨its2, rv2, p2, _⟩ := I.tuple hqy
    obtain ⟨its3, rv3, p3, _⟩ := I.tuple hqz
    have hh : X.A.in1.handled = none := I.ok.hd hc
    have m1 : its.toArray.size = i := by rw [List.size_toArray, ← rv.length]; exact l1
    have m2 : its2.toArray.size = i := by rw [List.size_toArray, ← rv2.length]; exact l2
    have m3 : its3.toArray.size = i := by rw [List.size_toArray, ← rv3.length]; exact l3
    refine wpAny_pyNext_zipD3_end D (Draws.tuple (prog := X.prog) (w := X.w) hh i1 a na its.toArray) (Draws.tuple (prog := X.prog) (w := X.w) hh i2 b nb its2.toArray) (Draws.tuple (prog := X.prog) (w := X.w) hh i3 e ne its3.toArray) hz hTI hTO ⟨h1, p⟩ ⟨h2, p2⟩ ⟨h3, p3⟩ (by omega) (by omega) (by omega) (.inl m1.symm) fun h' tk hk => ⟨rfl, ?_⟩
    exact I.turnedL (t' := tk) (ch := [z, TI, TO, i1, i2, i3]) (fun c o hb q =>
      hk c o (fun q' => hb (by simp [q'])) (fun q' => hb (by simp [q'])) (fun q' => hb (by simp [q'])) (fun q' => hb (by simp [q'])) (fun q' => hb (by simp [q'])) q) hf
  self := fun A i s Q E st h => wpAny_pyIter_zip st.1 h
def iZip3 (K : PySem.W.Frag) (ta : TA) : TI := fun σ H R => ta σ H fun vs H1 => ∃ a b e xs ys zs, vs = [.ref a, .ref b, .ref e] ∧ SqT K H1 a xs ∧ SqT K H1 b ys ∧ SqT K H1 e zs ∧ R (Itz3 K a b e) H1
theorem pi_zip3 {X : Cx} {e1 e2 e3 : Expr} {ta : TA} {p pos tpos : Pos} {elts : List Expr} {kk : Nat} (hg : Gl X "zip") (hm : X.mg "zip" = none) (ha : PA X [e1, e2, e3] ta)
    (hs : starEach [e1, e2, e3] X.env = (false, eval e1 X.env) :: starEach [e2, e3] X.env := by rfl) (hpl : (backTo pos (starEach [e2, e3] X.env)).any (·.1) = false := by rfl) :
    PI X (.Tuple elts kk tpos) (.Call (.Name "zip" p) [e1, e2, e3] [] pos) (iZip3 X.K ta) := by
  refine ⟨fun pins s σ H R I h => ?_⟩
  refine Call_ (ld_blt I hg hm PyProof.Rows.boot_zip (PyProof.Rows.callWith_type1 (thn (ha.run pos pins s σ H _ I h) fun us s1 ⟨vs, H1, I1, r1, q1⟩ => ?_) hs hpl))
  obtain ⟨a, b, e, xs, ys, zs, ex, hqx, hqy, hqz, q⟩ := q1
  subst ex
  cases r1 with
  | cons r rr =>
    cases rr with
    | cons r' rr =>
      cases rr with
      | cons r'' rr =>
        cases rr
        cases r
        cases r'
        cases r''
        obtain ⟨its, rv, p1, _⟩ := I1.tuple hqx
        obtain ⟨its2, rv2, p2, _⟩ := I1.tuple hqy
        obtain ⟨its3, rv3, p3, _⟩ := I1.tuple hqz
        have la : a < s1.heap.objs.size := by obtain ⟨_, q, _⟩ := p1; exact Heap.lt_size q
        have lb : b < s1.heap.objs.size := by obtain ⟨_, q, _⟩ := p2; exact Heap.lt_size q
        have le : e < s1.heap.objs.size := by obtain ⟨_, q, _⟩ := p3; exact Heap.lt_size q
        refine zip_begins3 (begins_tuple a its.toArray) (begins_tuple b its2.toArray) (begins_tuple e its3.toArray) p1 p2 p3 fun h' hz hTI hTO h1 h2 h3 hsz hk => wpAny_pyIter_zip hz ?_
        have I2 : Inv X pins σ H1 { s1 with heap := h' } := I1.kept (t' := s1.toks) hk
        refine ⟨s1.heap.objs.size + 5, [s1.heap.objs.size + 5, s1.heap.objs.size + 3, s1.heap.objs.size + 4, s1.heap.objs.size, s1.heap.objs.size + 1, s1.heap.objs.size + 2], _, _, H1, rfl, I2,
          turn_zip3 (zip_sep3 (N := s1.heap.objs.size) (by simpa using la) (by simpa using lb) (by simpa using le)) (Nat.ne_of_lt la) (Nat.ne_of_lt (Nat.lt_succ_of_lt lb)) (Nat.ne_of_lt (Nat.lt_succ_of_lt (Nat.lt_succ_of_lt le))), ⟨hz, hTI, ⟨_, _, _, hTO⟩, ⟨_, h1, rfl, rfl⟩, ⟨_, h2, rfl, rfl⟩, ⟨_, h3, rfl, rfl⟩⟩, fun c hcm => ?_, q⟩
        have e' : c = s1.heap.objs.size + 5 ∨ c = s1.heap.objs.size + 3 ∨ c = s1.heap.objs.size + 4 ∨ c = s1.heap.objs.size ∨ c = s1.heap.objs.size + 1 ∨ c = s1.heap.objs.size + 2 := by simpa using hcm
        have hle : s1.heap.objs.size ≤ c := by
          rcases e' with z | z | z | z | z | z
          · rw [z]; exact Nat.le_add_right _ _
          · rw [z]; exact Nat.le_add_right _ _
          · rw [z]; exact Nat.le_add_right _ _
          · rw [z]; exact Nat.le_refl _
          · rw [z]; exact Nat.le_add_right _ _
          · rw [z]; exact Nat.le_add_right _ _
        exact I1.fpOk hle (I1.hok.fresh hle)
/-- what a turn of three brings -/
theorem walk_zip3 {K : PySem.W.Frag} {a b e : Addr} {xs ys zs : List V} (l2 : ys.length = xs.length) (l3 : zs.length = xs.length) : Walk (Itz3 K a b e) xs.length (fun H => SqT K H a xs ∧ SqT K H b ys ∧ SqT K H e zs)
    (fun i H v H' => ∃ T x y u, v = .ref T ∧ H T = none ∧ H' = upd H T (.tup [x, y, u]) ∧ xs[i]? = some x ∧ ys[i]? = some y ∧ zs[i]? = some u) := by
  refine ⟨fun i _ hi q => ?_, fun _ q => ⟨xs, ys, zs, q.1, q.2.1, q.2.2, rfl, l2, l3⟩, fun i H v H' _ q y => ?_⟩
  · exact ⟨xs, ys, zs, xs[i], ys[i], zs[i], q.1, q.2.1, q.2.2, by simp [hi], by simp [l2, hi], by simp [l3, hi]⟩
  · obtain ⟨T, x, y, u, h1, h2, h3, h4, h5, h6⟩ := y
    exact ⟨T, x, y, u, h1, h2, h3, h4 xs q.1, h5 ys q.2.1, h6 zs q.2.2⟩
/-! the least of a tuple of ints -/
def rMinT (K : PySem.W.Frag) : List V → Hp → VK → Prop := fun vs H Q => ∃ (a : Addr) (k : Int) (ks : List Int), vs = [V.ref a] ∧ SqT K H a ((k :: ks).map V.int) ∧ Q (.int (ks.foldl min k)) H
theorem cr_minT {X : Cx} (hc : X.calm = true) (hu : X.A.units + 64 < cLine) : CallR X (.builtin "min") (rMinT X.K) := by
  intro pins s σ H vs us Q I r h
  obtain ⟨a, k, ks, rfl, hs, q⟩ := h
  obtain ⟨u, rfl, ru⟩ := vals1 r
  obtain rfl : u = Value.ref a := ru
  obtain ⟨its, rv, p, _⟩ := I.tuple hs
  obtain ⟨as, hr⟩ := Dp.readsAll I ((k :: ks).map PyData.int) ((k :: ks).map V.int) its (dp_ints _) rv
  have hd := depth_ints (k :: ks)
  refine PySem.W.min_tuple_data (x := PyData.int k) (xs := ks.map PyData.int) (I.ok.hd hc) p (by simpa using hr) (alike_ints (k :: ks)) (by
    have : PyData.depthAll (PyData.int k :: ks.map PyData.int) ≤ 1 := hd
    omega) fun i v h' tk bs hv hrd hk => ?_
  rw [PySem.W.minD_ints] at hrd
  rw [List.getElem?_toArray] at hv
  obtain ⟨x, hx, rx⟩ := prd_at2 rv hv
  obtain ⟨j, _, rfl⟩ := map_at hx
  obtain ⟨t, rfl⟩ := rx
  have e := (hrd.unique _ _ (Reads.int j t)).1
  cases e
  exact ⟨.int _, H, I.kept (t' := tk) hk, ⟨t, rfl⟩, q⟩
theorem foldl_min_le : ∀ (ks : List Int) (k : Int), ks.foldl min k ≤ k ∧ ∀ x ∈ ks, ks.foldl min k ≤ x
  | [], k => ⟨Int.le_refl _, by simp⟩
  | y :: r, k => by
    obtain ⟨h1, h2⟩ := foldl_min_le r (min k y)
    rw [List.foldl_cons]
    refine ⟨by omega, fun x hx => ?_⟩
    rcases List.mem_cons.mp hx with e | e
    · subst e; omega
    · exact h2 x e
end Toy

namespace Toy
open PySem PySem.Spec PyProof.Rows L2
/-! offsets: plain mathematics -/
structure Met (n : Nat) (ws : List (List Int)) : Prop where
  nn : ∀ i j, i < n → j < n → 0 ≤ mat ws i j
  z : ∀ i, i < n → mat ws i i = 0
  tri : ∀ i j k, i < n → j < n → k < n → mat ws i k ≤ mat ws i j + mat ws j k
theorem Least.met {n : Nat} {R : Nat → Nat → Int} {ws : List (List Int)} (L : Least n R (mat ws)) (h : ∀ i j, i < n → j < n → 0 ≤ R i j) : Met n ws := by
  refine ⟨fun i j hi hj => ?_, fun i hi => ?_, fun i j k hi hj hk => ?_⟩
  · obtain ⟨l, w, e⟩ := L.has i j hi hj
    rw [← e]; exact rc_nn h l w.lt
  · have h1 := L.le i i [i] hi hi ⟨rfl, rfl, by simpa using hi⟩
    obtain ⟨l, w, e⟩ := L.has i i hi hi
    have h2 := rc_nn h l w.lt
    have h3 : rc R [i] = 0 := rfl
    omega
  · obtain ⟨l, w, e⟩ := L.has i j hi hj
    obtain ⟨l', w', e'⟩ := L.has j k hj hk
    obtain ⟨m, wm, em⟩ := way_cat (R := R) w w'
    have := L.le i k m hi hk wm
    omega
theorem SysOk.met {S : Sys} (ok : SysOk S) : Met S.n.toNat S.ws := ok.wy.least.met ok.sq.nn
/-- what is served, with the prices so far -/
def svF (off : List Int) (row : List (Option Int)) (a : Nat) : Option (Int × Nat) := match row.getD a none with
  | some k => some (off.getD a 0 + k, a)
  | none => none
def srv (n : Nat) (off : List Int) (row : List (Option Int)) : List (Int × Nat) := (List.range n).filterMap (svF off row)
theorem svF_some {off : List Int} {row : List (Option Int)} {a : Nat} {k : Int} (h : row.getD a none = some k) : svF off row a = some (off.getD a 0 + k, a) := by unfold svF; rw [h]
theorem svF_none {off : List Int} {row : List (Option Int)} {a : Nat} (h : row.getD a none = none) : svF off row a = none := by unfold svF; rw [h]
theorem srv_mem {n : Nat} {off : List Int} {row : List (Option Int)} {q : Int × Nat} : q ∈ srv n off row ↔ ∃ a k, a < n ∧ row.getD a none = some k ∧ q = (off.getD a 0 + k, a) := by
  unfold srv
  rw [List.mem_filterMap]
  constructor
  · rintro ⟨a, ha, e⟩
    cases hc : row.getD a none with
    | none => rw [svF_none hc] at e; cases e
    | some k => rw [svF_some hc] at e; exact ⟨a, k, List.mem_range.mp ha, hc, (Option.some.inj e).symm⟩
  · rintro ⟨a, k, ha, hk, rfl⟩
    exact ⟨a, List.mem_range.mpr ha, svF_some hk⟩
def rawAt (ws : List (List Int)) (sv : List (Int × Nat)) (b : Nat) : Int := minL (sv.map fun q => q.1 + mat ws q.2 b)
def rawL (n : Nat) (ws : List (List Int)) (sv : List (Int × Nat)) : List Int := (List.range n).map (rawAt ws sv)
theorem rawL_len {n : Nat} {ws : List (List Int)} {sv : List (Int × Nat)} : (rawL n ws sv).length = n := by unfold rawL; rw [List.length_map, List.length_range]
theorem rawL_at {n : Nat} {ws : List (List Int)} {sv : List (Int × Nat)} {b : Nat} (h : b < n) : (rawL n ws sv).getD b 0 = rawAt ws sv b := by
  unfold rawL
  rw [List.getD_eq_getElem?_getD, List.getElem?_map, List.getElem?_range h]
  rfl
theorem raw_le {ws : List (List Int)} {sv : List (Int × Nat)} {b : Nat} {q : Int × Nat} (h : q ∈ sv) : rawAt ws sv b ≤ q.1 + mat ws q.2 b := minL_le (List.mem_map.mpr ⟨q, h, rfl⟩)
theorem raw_has {ws : List (List Int)} {sv : List (Int × Nat)} {b : Nat} (h : sv ≠ []) : ∃ q ∈ sv, rawAt ws sv b = q.1 + mat ws q.2 b := by
  have hne : sv.map (fun q => q.1 + mat ws q.2 b) ≠ [] := by
    intro e
    exact h (List.map_eq_nil_iff.mp e)
  obtain ⟨q, hq, e⟩ := List.mem_map.mp (minL_mem hne)
  exact ⟨q, hq, e.symm⟩
def newOff (r : List Int) : List Int := r.map fun c => c - minL r
/-- right offsets -/
structure OffOk (n : Nat) (ws : List (List Int)) (off : List Int) : Prop where
  len : off.length = n
  nn : ∀ b, b < n → 0 ≤ off.getD b 0
  zero : ∃ b, b < n ∧ off.getD b 0 = 0
  tri : ∀ a b, a < n → b < n → off.getD b 0 ≤ off.getD a 0 + mat ws a b
/-- offsets of a row, and the sum of its rises -/
structure Offs (n : Nat) (ws : List (List Int)) (rs : List (List (Option Int))) (off : List Int) (tot : Int) : Prop where
  lo : ∀ ps c a b, Run n ws rs ps c a → b < n → off.getD b 0 + tot ≤ c + mat ws a b
  at_ : ∀ b, b < n → ∃ ps c a, Run n ws rs ps c a ∧ off.getD b 0 + tot = c + mat ws a b
theorem Offs.first {n : Nat} {ws : List (List Int)} {off : List Int} (e : ∀ b, b < n → off.getD b 0 = mat ws 0 b) : Offs n ws [] off 0 := by
  refine ⟨fun ps c a b h hb => ?_, fun b hb => ⟨[], 0, 0, .nil, by rw [e b hb]; omega⟩⟩
  have hl : ps = [] := List.eq_nil_of_length_eq_zero (by have := h.len; simpa using this)
  subst hl
  obtain ⟨e1, e2⟩ := (Run.nil (n := n) (ws := ws)).fn h
  subst e1; subst e2
  rw [e b hb]; omega
theorem OffOk.first {n : Nat} {ws : List (List Int)} {off : List Int} (M : Met n ws) (hn : 0 < n) (hl : off.length = n) (e : ∀ b, b < n → off.getD b 0 = mat ws 0 b) : OffOk n ws off := by
  refine ⟨hl, fun b hb => by rw [e b hb]; exact M.nn _ _ hn hb, ⟨0, hn, by rw [e 0 hn]; exact M.z 0 hn⟩, fun a b ha hb => ?_⟩
  rw [e a ha, e b hb]
  exact M.tri _ _ _ hn ha hb
section
variable {n : Nat} {ws : List (List Int)} {off : List Int} {row : List (Option Int)}
theorem srv_ne (hlen : row.length = n) (hs : ∃ x : Int, some x ∈ row) : srv n off row ≠ [] := by
  obtain ⟨x, hx⟩ := hs
  obtain ⟨p, hp⟩ := List.mem_iff_getElem?.mp hx
  have hl := (List.getElem?_eq_some_iff.mp hp).1
  exact List.ne_nil_of_mem (srv_mem.mpr ⟨p, x, by omega, by rw [List.getD_eq_getElem?_getD, hp]; rfl, rfl⟩)
theorem newOff_at {r : List Int} {b : Nat} (h : b < r.length) : (newOff r).getD b 0 = r.getD b 0 - minL r := by
  unfold newOff
  rw [List.getD_eq_getElem?_getD, List.getElem?_map, List.getD_eq_getElem?_getD, List.getElem?_eq_getElem h]
  rfl
theorem min_at {r : List Int} (h : 0 < r.length) : (∃ b, b < r.length ∧ r.getD b 0 = minL r) ∧ ∀ b, b < r.length → minL r ≤ r.getD b 0 := by
  have hne : r ≠ [] := by intro e; subst e; simp at h
  constructor
  · obtain ⟨b, hb, e⟩ := List.getElem_of_mem (minL_mem hne)
    exact ⟨b, hb, by rw [List.getD_eq_getElem?_getD, List.getElem?_eq_getElem hb]; exact e⟩
  · intro b hb
    rw [List.getD_eq_getElem?_getD, List.getElem?_eq_getElem hb]
    exact minL_le (List.getElem_mem hb)
theorem OffOk.step (M : Met n ws) (hn : 0 < n) (hlen : row.length = n) (hs : ∃ x : Int, some x ∈ row) : OffOk n ws (newOff (rawL n ws (srv n off row))) := by
  have hr : (rawL n ws (srv n off row)).length = n := rawL_len
  obtain ⟨⟨b0, hb0, e0⟩, hmin⟩ := min_at (r := rawL n ws (srv n off row)) (by omega)
  have hne := srv_ne (off := off) hlen hs
  refine ⟨by unfold newOff; rw [List.length_map]; exact hr, fun b hb => ?_, ⟨b0, by omega, ?_⟩, fun a b ha hb => ?_⟩
  · rw [newOff_at (by omega)]
    have := hmin b (by omega)
    omega
  · rw [newOff_at hb0]; omega
  · rw [newOff_at (by omega), newOff_at (by omega), rawL_at ha, rawL_at hb]
    obtain ⟨q, hq, e⟩ := raw_has (ws := ws) (b := a) hne
    obtain ⟨p, k, hp, _, rfl⟩ := srv_mem.mp hq
    have h1 := raw_le (ws := ws) (b := b) hq
    have h2 := M.tri p a b hp ha hb
    simp only at e h1
    omega
theorem rise_ge (O : OffOk n ws off) (M : Met n ws) (hn : 0 < n) (hlen : row.length = n) (hs : ∃ x : Int, some x ∈ row) : ∃ x : Int, some x ∈ row ∧ x ≤ minL (rawL n ws (srv n off row)) := by
  have hr : (rawL n ws (srv n off row)).length = n := rawL_len
  obtain ⟨⟨b, hb, e⟩, _⟩ := min_at (r := rawL n ws (srv n off row)) (by omega)
  rw [rawL_at (by omega)] at e
  obtain ⟨q, hq, e2⟩ := raw_has (ws := ws) (b := b) (srv_ne (off := off) hlen hs)
  obtain ⟨p, k, hp, hk, rfl⟩ := srv_mem.mp hq
  have h1 := O.nn p hp
  have h2 := M.nn p b hp (by omega)
  refine ⟨k, ?_, by simp only at e2; omega⟩
  rw [List.getD_eq_getElem?_getD] at hk
  cases hc : row[p]? with
  | none => rw [hc] at hk; cases hk
  | some o =>
    rw [hc] at hk
    have hk2 : o = some k := hk
    subst hk2
    exact List.mem_of_getElem? hc
theorem Offs.step (hn : 0 < n) (hlen : row.length = n) (hs : ∃ x : Int, some x ∈ row) {rs : List (List (Option Int))} {tot : Int} (O : Offs n ws rs off tot) :
    Offs n ws (rs ++ [row]) (newOff (rawL n ws (srv n off row))) (tot + minL (rawL n ws (srv n off row))) := by
  have hr : (rawL n ws (srv n off row)).length = n := rawL_len
  refine ⟨fun ps c a b h hb => ?_, fun b hb => ?_⟩
  · rw [newOff_at (by omega), rawL_at hb]
    obtain ⟨ps0, c0, a0, k, rfl, h0, ha, hk, rfl⟩ := h.inv
    have h1 := raw_le (ws := ws) (b := b) (srv_mem.mpr ⟨a, k, ha, hk, rfl⟩ : (off.getD a 0 + k, a) ∈ srv n off row)
    have h2 := O.lo _ _ _ a h0 ha
    simp only at h1
    omega
  · rw [newOff_at (by omega), rawL_at hb]
    obtain ⟨q, hq, e⟩ := raw_has (ws := ws) (b := b) (srv_ne (off := off) hlen hs)
    obtain ⟨p, k, hp, hk, rfl⟩ := srv_mem.mp hq
    obtain ⟨ps, c, a, h0, e0⟩ := O.at_ p hp
    refine ⟨ps ++ [p], c + mat ws a p + k, p, .snoc h0 hp hk, ?_⟩
    simp only at e
    omega
/-- the sum of the rises is the wisest price -/
theorem Offs.wise (M : Met n ws) (hn : 0 < n) {rs : List (List (Option Int))} {tot : Int} (O : Offs n ws rs off tot) (K : OffOk n ws off) {ps : List Nat} {c : Int} {a : Nat} (h : Run n ws rs ps c a) (e : c = (val n ws rs).getD 0 0) : c = tot := by
  have ha := h.lt hn
  have h1 := O.lo _ _ _ a h ha
  have h2 := K.nn a ha
  rw [M.z a ha] at h1
  obtain ⟨b, hb, eb⟩ := K.zero
  obtain ⟨ps', c', a', h', e'⟩ := O.at_ b hb
  have h3 := M.nn a' b (h'.lt hn) hb
  have h4 := h'.ge hn
  omega
end
end Toy

namespace Toy
open PySem PySem.Spec PyProof.Rows L2
/-! things of the built-in kinds, whatever they are; all that belongs to them stands at addresses of A -/
inductive Dat (A : Addr → Prop) (H : Hp) : V → Prop
  | non : Dat A H .non
  | bl (b : Bool) : Dat A H (.bl b)
  | int (i : Int) : Dat A H (.int i)
  | str (z : Str) : Dat A H (.str z)
  | lst (a : Addr) (xs : List V) : A a → H a = some (.lst xs) → (∀ x ∈ xs, Dat A H x) → Dat A H (.ref a)
  | tup (a : Addr) (xs : List V) : A a → H a = some (.tup xs) → (∀ x ∈ xs, Dat A H x) → Dat A H (.ref a)
  | dK (a : Addr) (kvs : List (Key × V)) : A a → H a = some (.dK kvs) → (∀ q ∈ kvs, Dat A H q.2) → Dat A H (.ref a)
theorem Dat.mono {A B : Addr → Prop} {H H' : Hp} {v : V} (D : Dat A H v) (hk : ∀ a o, A a → H a = some o → H' a = some o) (hA : ∀ a, A a → (∃ o, H a = some o) → B a) : Dat B H' v := by
  induction D with
  | non => exact .non
  | bl b => exact .bl b
  | int i => exact .int i
  | str z => exact .str z
  | lst a xs h1 h2 _ ih => exact .lst a xs (hA a h1 ⟨_, h2⟩) (hk _ _ h1 h2) ih
  | tup a xs h1 h2 _ ih => exact .tup a xs (hA a h1 ⟨_, h2⟩) (hk _ _ h1 h2) ih
  | dK a kvs h1 h2 _ ih => exact .dK a kvs (hA a h1 ⟨_, h2⟩) (hk _ _ h1 h2) ih
theorem Dat.same {A : Addr → Prop} {H H' : Hp} {v : V} (D : Dat A H v) (k : Same H H') : Dat A H' v := D.mono (fun a o _ h => k a o h) fun _ h _ => h
theorem Dat.keep {d : Addr} {H H' : Hp} {v : V} (D : Dat (fun a => a ≠ d) H v) (k : Keep d H H') : Dat (fun a => a ≠ d) H' v := D.mono (fun a o n h => k a o n h) fun _ h _ => h
theorem Dat.ty {A : Addr → Prop} {H : Hp} {v : V} (D : Dat A H v) : ∃ n, tyN H v = some n := by
  cases D with
  | non => exact ⟨_, rfl⟩
  | bl b => exact ⟨_, rfl⟩
  | int i => exact ⟨_, rfl⟩
  | str z => exact ⟨_, rfl⟩
  | lst a xs h1 h2 _ => exact ⟨"list", by unfold tyN; simp only [h2]⟩
  | tup a xs h1 h2 _ => exact ⟨"tuple", ty_tup h2⟩
  | dK a kvs h1 h2 _ => exact ⟨"dict", ty_dK h2⟩
theorem Dat.item {A : Addr → Prop} {H : Hp} {a : Addr} {xs : List V} {x : V} (D : Dat A H (.ref a)) (h : H a = some (.tup xs) ∨ H a = some (.lst xs)) (m : x ∈ xs) : Dat A H x := by
  cases D with
  | lst a' ys h1 h2 h3 =>
    rcases h with h | h
    · rw [h2] at h; cases h
    · rw [h2] at h; cases h; exact h3 _ m
  | tup a' ys h1 h2 h3 =>
    rcases h with h | h
    · rw [h2] at h; cases h; exact h3 _ m
    · rw [h2] at h; cases h
  | dK a' ys h1 h2 h3 =>
    rcases h with h | h <;> (rw [h2] at h; cases h)
/-- a list or a tuple -/
def SeqAt' (H : Hp) (a : Addr) (ts : List V) : Prop := H a = some (.tup ts) ∨ H a = some (.lst ts)
theorem SeqAt'.same {H H' : Hp} {a : Addr} {ts : List V} (h : SeqAt' H a ts) (k : Same H H') : SeqAt' H' a ts := h.elim (fun q => .inl (k _ _ q)) fun q => .inr (k _ _ q)
theorem SeqAt'.fn {H : Hp} {a : Addr} {ts us : List V} (h : SeqAt' H a ts) (g : SeqAt' H a us) : ts = us := by
  rcases h with h | h <;> rcases g with g | g <;> (rw [h] at g; cases g) <;> rfl
theorem SeqAt'.ix {K : PySem.W.Frag} {H : Hp} {a : Addr} {ts : List V} {i : Int} {x : V} {Q : VK} (h : SeqAt' H a ts) (hx : atI ts i = some x) (q : Q x H) : rIxL K (.ref a) (.int i) H Q ∨ rIxT K (.ref a) (.int i) H Q :=
  h.elim (fun e => .inr ⟨a, ts, i, x, rfl, rfl, SqT.of e, hx, q⟩) fun e => .inl ⟨a, ts, i, x, rfl, rfl, SqL.of e, hx, q⟩
theorem SeqAt'.len {K : PySem.W.Frag} {H : Hp} {a : Addr} {ts : List V} (h : SeqAt' H a ts) : SqL K H a ts ∨ SqT K H a ts := h.elim (fun e => .inr (SqT.of e)) fun e => .inl (SqL.of e)
theorem SeqAt'.ty {H : Hp} {a : Addr} {ts : List V} (h : SeqAt' H a ts) : ∃ n, tyN H (.ref a) = some n ∧ (n == "list" || n == "tuple") = true := by
  rcases h with q | q
  · exact ⟨"tuple", ty_tup q, rfl⟩
  · exact ⟨"list", by unfold tyN; simp only [q], rfl⟩
theorem tyN_seq {H : Hp} {v : V} {n : String} (h : tyN H v = some n) (hn : (n == "list" || n == "tuple") = true) : ∃ a ts, v = .ref a ∧ SeqAt' H a ts := by
  cases v with
  | ref a =>
    unfold tyN at h
    cases e : H a with
    | none => simp only [e] at h; cases h
    | some o =>
      cases o with
      | tup xs => exact ⟨a, xs, rfl, .inl e⟩
      | lst xs => exact ⟨a, xs, rfl, .inr e⟩
      | _ => simp only [e] at h <;> cases h <;> simp at hn
  | _ => cases h <;> simp at hn
/-- lists of flags that tell of the items ahead -/
structure Told (p : Nat → Prop) (j : Nat) (bs : List Bool) : Prop where
  len : bs.length = j
  iff : ∀ i b, bs[i]? = some b → (b = true ↔ p i)
theorem Told.nil {p : Nat → Prop} : Told p 0 [] := ⟨rfl, fun i b h => by simp at h⟩
theorem Told.snoc {p : Nat → Prop} {j : Nat} {bs : List Bool} {b : Bool} (t : Told p j bs) (h : b = true ↔ p j) : Told p (j + 1) (bs ++ [b]) := by
  refine ⟨by rw [List.length_append, t.len]; rfl, fun i c hc => ?_⟩
  by_cases hi : i < bs.length
  · rw [List.getElem?_append_left hi] at hc; exact t.iff i c hc
  · rw [List.getElem?_append_right (by omega)] at hc
    have hz : i - bs.length = 0 := by
      have := (List.getElem?_eq_some_iff.mp hc).1
      simp at this; omega
    rw [hz] at hc
    have : c = b := by simpa using hc.symm
    subst this
    rw [show i = j by have := t.len; omega]; exact h
theorem Told.all {p : Nat → Prop} {j : Nat} {bs : List Bool} (t : Told p j bs) : bs.all id = true ↔ ∀ i, i < j → p i := by
  rw [List.all_eq_true]
  constructor
  · intro h i hi
    have hb : bs[i]? = some (bs[i]'(by rw [t.len]; exact hi)) := List.getElem?_eq_getElem _
    exact (t.iff i _ hb).mp (h _ (List.mem_of_getElem? hb))
  · intro h b hb
    obtain ⟨i, hi⟩ := List.getElem?_of_mem hb
    exact (t.iff i b hi).mpr (h i (by have := (List.getElem?_eq_some_iff.mp hi).1; have := t.len; omega))
theorem Told.any {p : Nat → Prop} {j : Nat} {bs : List Bool} (t : Told p j bs) : bs.any id = true ↔ ∃ i, i < j ∧ p i := by
  rw [List.any_eq_true]
  constructor
  · rintro ⟨b, hb, e⟩
    obtain ⟨i, hi⟩ := List.getElem?_of_mem hb
    exact ⟨i, by have := (List.getElem?_eq_some_iff.mp hi).1; have := t.len; omega, (t.iff i b hi).mp e⟩
  · rintro ⟨i, hi, h⟩
    have hb : bs[i]? = some (bs[i]'(by rw [t.len]; exact hi)) := List.getElem?_eq_getElem _
    exact ⟨_, List.mem_of_getElem? hb, (t.iff i _ hb).mpr h⟩
theorem bl_snoc (bs : List Bool) (b : Bool) : bs.map V.bl ++ [V.bl b] = (bs ++ [b]).map V.bl := by rw [List.map_append]; rfl
/-! a tuple of so many ints -/
def IsInts (H : Hp) (v : V) (m : Int) : Prop := ∃ ks, IntT H v ks ∧ (ks.length : Int) = m
theorem IsInts.same {H H' : Hp} {v : V} {m : Int} (h : IsInts H v m) (k : Same H H') : IsInts H' v m := by
  obtain ⟨ks, h1, h2⟩ := h
  exact ⟨ks, IntT.firm _ _ _ _ (same_tups k) h1, h2⟩
theorem isInts_of {H : Hp} {v : V} {m : Int} {xs : List V} {a : Addr} (e : v = .ref a) (h : H a = some (.tup xs)) : IsInts H v m ↔ ((xs.length : Int) = m ∧ ∀ i, i < xs.length → isI (xs.getD i .non) = true) := by
  subst e
  constructor
  · rintro ⟨ks, ⟨a', e, h'⟩, hl⟩
    cases e
    rw [h] at h'
    cases h'
    refine ⟨by rw [List.length_map]; exact hl, fun i hi => ?_⟩
    rw [List.length_map] at hi
    rw [List.getD_eq_getElem?_getD, List.getElem?_map, List.getElem?_eq_getElem hi]
    rfl
  · rintro ⟨h1, h2⟩
    have : ∀ xs : List V, (∀ i, i < xs.length → isI (xs.getD i .non) = true) → ∃ ks : List Int, xs = ks.map V.int := by
      intro xs
      induction xs with
      | nil => exact fun _ => ⟨[], rfl⟩
      | cons x t ih =>
        intro hx
        obtain ⟨ks, rfl⟩ := ih fun i hi => by
          have := hx (i + 1) (by rw [List.length_cons]; omega)
          simpa using this
        have h0 := hx 0 (by simp)
        cases x with
        | int i => exact ⟨i :: ks, rfl⟩
        | _ => simp [isI] at h0
    obtain ⟨ks, rfl⟩ := this xs h2
    exact ⟨ks, ⟨a, rfl, h⟩, by rw [← h1, List.length_map]⟩
theorem isInts_no {H : Hp} {v : V} {m : Int} (h : isTup H m v = false) : ¬ IsInts H v m := by
  rintro ⟨ks, ⟨a, rfl, h'⟩, hl⟩
  rw [tup_isTup h' (by rw [List.length_map]; exact hl)] at h
  cases h
theorem isTup_yes {H : Hp} {v : V} {m : Int} (h : isTup H m v = true) : ∃ a xs, v = .ref a ∧ H a = some (.tup xs) ∧ (xs.length : Int) = m := by
  cases v with
  | ref a =>
    unfold isTup at h
    cases e : H a with
    | none => simp only [e] at h; cases h
    | some o =>
      cases o with
      | tup xs => simp only [e] at h; exact ⟨a, xs, rfl, e, of_decide_eq_true h⟩
      | _ => simp only [e] at h; cases h
  | _ => cases h
theorem foldl_max_le : ∀ (ks : List Int) (k m : Int), ks.foldl max k ≤ m ↔ k ≤ m ∧ ∀ x ∈ ks, x ≤ m
  | [], k, m => by simp
  | x :: t, k, m => by
    rw [List.foldl_cons, foldl_max_le t (max k x) m]
    simp only [List.mem_cons, forall_eq_or_imp, Int.max_le]
    exact ⟨fun ⟨⟨a, b⟩, c⟩ => ⟨a, b, c⟩, fun ⟨a, b, c⟩ => ⟨⟨a, b⟩, c⟩⟩
theorem getD_at {α : Type} {xs : List α} {i : Nat} {x d : α} (h : xs[i]? = some x) : xs.getD i d = x := by rw [List.getD_eq_getElem?_getD, h]; rfl
theorem le_not {a b : Int} (h : ¬ a < b) : b ≤ a := by omega
/-! floors of rows -/
structure FlOk (n : Nat) (ws : List (List Int)) (rs : List (List (Option Int))) (hs : List (List Int)) : Prop where
  last : ∀ a, a < n → (hs.getD rs.length []).getD a 0 ≤ 0
  step : ∀ k row, rs[k]? = some row → ∀ a b p, a < n → b < n → row.getD b none = some p → (hs.getD k []).getD a 0 ≤ mat ws a b + p + (hs.getD (k + 1) []).getD b 0
def FloorIs (n : Int) (ws : List (List Int)) (rs : List (List (Option Int))) (H : Hp) (v : V) : Prop :=
  ∃ a ts hs, v = .ref a ∧ SeqAt' H a ts ∧ ts.length = rs.length + 1 ∧ Paired (fun z ks => IntT H z ks ∧ (ks.length : Int) = n) ts hs ∧ FlOk n.toNat ws rs hs
def headOf (H : Hp) (v : V) (x : Int) : Prop := ∃ (a : Addr) (ts : List V) (b : Addr) (ks : List Int), v = .ref a ∧ SeqAt' H a ts ∧ ts[0]? = some (.ref b) ∧ H b = some (.tup (ks.map V.int)) ∧ ks.getD 0 0 = x
theorem headOf.fn {H : Hp} {v : V} {x y : Int} (h : headOf H v x) (g : headOf H v y) : x = y := by
  obtain ⟨a, ts, b, ks, rfl, h2, h3, h4, rfl⟩ := h
  obtain ⟨a', ts', b', ks', e, g2, g3, g4, rfl⟩ := g
  cases e
  obtain rfl := h2.fn g2
  rw [h3] at g3; cases g3
  rw [h4] at g4
  have : ks.map V.int = ks'.map V.int := by injection g4 with g4; injection g4
  have : ks = ks' := by
    have inj : ∀ xs ys : List Int, xs.map V.int = ys.map V.int → xs = ys := by
      intro xs
      induction xs with
      | nil => intro ys h; cases ys with | nil => rfl | cons y t => cases h
      | cons x t ih =>
        intro ys h
        cases ys with
        | nil => cases h
        | cons y u =>
          rw [List.map_cons, List.map_cons] at h
          injection h with h1 h2
          injection h1 with h1
          rw [h1, ih u h2]
    exact inj _ _ this
  rw [this]
theorem paired_ints {H : Hp} {n : Int} : ∀ {ts : List V}, (∀ i, i < ts.length → IsInts H (ts.getD i .non) n) → ∃ hs, Paired (fun z ks => IntT H z ks ∧ (ks.length : Int) = n) ts hs
  | [], _ => ⟨[], .nil⟩
  | z :: t, h => by
    obtain ⟨hs, hp⟩ := paired_ints (H := H) (n := n) (ts := t) fun i hi => by
      have := h (i + 1) (by rw [List.length_cons]; omega)
      simpa using this
    obtain ⟨ks, h1, h2⟩ := h 0 (by simp)
    exact ⟨ks :: hs, .cons ⟨by simpa using h1, h2⟩ hp⟩
theorem ceil_iff {n : Nat} {ws : List (List Int)} {row : List (Option Int)} {ah ks : List Int} (hne : ∀ a, chs n ws row ah a ≠ []) : (∀ a, a < n → ks.getD a 0 ≤ (ceil n ws row ah).getD a 0) ↔ ∀ a b p, a < n → b < n → row.getD b none = some p → ks.getD a 0 ≤ mat ws a b + p + ah.getD b 0 := by
  constructor
  · intro h a b p ha hb hp
    exact Int.le_trans (h a ha) (ceil_le ha hb hp)
  · intro h a ha
    rw [ceil_at ha]
    have hm := minL_mem (l := (chs n ws row ah a).map (·.1)) (by intro e; exact hne a (List.map_eq_nil_iff.mp e))
    obtain ⟨⟨x, y⟩, hq, hx⟩ := List.mem_map.mp hm
    obtain ⟨pp, k, hpp, hk, e⟩ := chs_mem.mp hq
    cases e
    have hx : mat ws a pp + k + ah.getD pp 0 = _ := hx
    rw [← hx]
    exact h a pp k ha hpp hk
/-! things as data -/
inductive DatP (A : Addr → Prop) (H : Hp) : V → PyData → Prop
  | non : DatP A H .non .none
  | bl (b : Bool) : DatP A H (.bl b) (.bool b)
  | int (i : Int) : DatP A H (.int i) (.int i)
  | str (z : Str) : DatP A H (.str z) (.str z)
  | lst (a : Addr) (xs : List V) (ds : List PyData) : A a → H a = some (.lst xs) → xs.length = ds.length → (∀ (i : Nat) x d, xs[i]? = some x → ds[i]? = some d → DatP A H x d) → DatP A H (.ref a) (.list ds)
  | tup (a : Addr) (xs : List V) (ds : List PyData) : A a → H a = some (.tup xs) → xs.length = ds.length → (∀ (i : Nat) x d, xs[i]? = some x → ds[i]? = some d → DatP A H x d) → DatP A H (.ref a) (.tuple ds)
theorem DatP.mono {A B : Addr → Prop} {H H' : Hp} {v : V} {d : PyData} (D : DatP A H v d) (hk : ∀ a o, A a → H a = some o → H' a = some o) (hA : ∀ a, A a → (∃ o, H a = some o) → B a) : DatP B H' v d := by
  induction D with
  | non => exact .non
  | bl b => exact .bl b
  | int i => exact .int i
  | str z => exact .str z
  | lst a xs ds h1 h2 h3 _ ih => exact .lst a xs ds (hA a h1 ⟨_, h2⟩) (hk _ _ h1 h2) h3 ih
  | tup a xs ds h1 h2 h3 _ ih => exact .tup a xs ds (hA a h1 ⟨_, h2⟩) (hk _ _ h1 h2) h3 ih
theorem DatP.same {A : Addr → Prop} {H H' : Hp} {v : V} {d : PyData} (D : DatP A H v d) (k : Same H H') : DatP A H' v d := D.mono (fun a o _ h => k a o h) fun _ h _ => h
theorem dpAll_of {K : PySem.W.Frag} {H : Hp} : ∀ {xs : List V} {ds : List PyData}, xs.length = ds.length → (∀ (i : Nat) x d, xs[i]? = some x → ds[i]? = some d → Dp K H x d) → DpAll K H xs ds
  | [], [], _, _ => .nil
  | [], _ :: _, h, _ => by simp at h
  | _ :: _, [], h, _ => by simp at h
  | x :: xs, d :: ds, h, f => .cons (f 0 x d rfl rfl) (dpAll_of (by simpa using h) fun i y e h1 h2 => f (i + 1) y e (by simpa using h1) (by simpa using h2))
theorem DatP.dp {K : PySem.W.Frag} {A : Addr → Prop} {H : Hp} {v : V} {d : PyData} (D : DatP A H v d) : Dp K H v d := by
  induction D with
  | non => exact .non
  | bl b => exact .bl b
  | int i => exact .int i
  | str z => exact .str z
  | lst a xs ds h1 h2 h3 _ ih => exact .lst (SqL.of h2) (dpAll_of h3 ih)
  | tup a xs ds h1 h2 h3 _ ih => exact .tup (SqT.of h2) (dpAll_of h3 ih)
theorem DatP.dat {A : Addr → Prop} {H : Hp} {v : V} {d : PyData} (D : DatP A H v d) : Dat A H v := by
  induction D with
  | non => exact .non
  | bl b => exact .bl b
  | int i => exact .int i
  | str z => exact .str z
  | lst a xs ds h1 h2 h3 _ ih =>
    refine .lst a xs h1 h2 fun x hx => ?_
    obtain ⟨i, hi⟩ := List.getElem?_of_mem hx
    have hl := (List.getElem?_eq_some_iff.mp hi).1
    exact ih i x _ hi (List.getElem?_eq_getElem (by omega))
  | tup a xs ds h1 h2 h3 _ ih =>
    refine .tup a xs h1 h2 fun x hx => ?_
    obtain ⟨i, hi⟩ := List.getElem?_of_mem hx
    have hl := (List.getElem?_eq_some_iff.mp hi).1
    exact ih i x _ hi (List.getElem?_eq_getElem (by omega))
theorem datP_one {A : Addr → Prop} {H : Hp} {a : Addr} {x : V} {d : PyData} (hA : A a) (h : H a = some (.lst [x])) (hx : DatP A H x d) : DatP A H (.ref a) (.list [d]) :=
  .lst a _ _ hA h rfl fun i y e h1 h2 => by
    match i with
    | 0 => cases h1; cases h2; exact hx
    | i + 1 => simp at h1
theorem datP_oneT {A : Addr → Prop} {H : Hp} {a : Addr} {x : V} {d : PyData} (hA : A a) (h : H a = some (.tup [x])) (hx : DatP A H x d) : DatP A H (.ref a) (.tuple [d]) :=
  .tup a _ _ hA h rfl fun i y e h1 h2 => by
    match i with
    | 0 => cases h1; cases h2; exact hx
    | i + 1 => simp at h1
/-- a thing that can be compared with itself: data without dicts, or a flat dict -/
def OddV (A : Addr → Prop) (H : Hp) (v : V) : Prop := (∃ d, DatP A H v d ∧ SeqAt.shaped d = true) ∨ ∃ (a : Addr) (kvs : List (Key × V)), v = .ref a ∧ A a ∧ H a = some (.dK kvs) ∧ (kvs.map (·.1)).Nodup ∧ ∀ p ∈ kvs, flatB p.2 = true ∧ Dat A H p.2
theorem OddV.mono {A B : Addr → Prop} {H H' : Hp} {v : V} (D : OddV A H v) (hk : ∀ a o, A a → H a = some o → H' a = some o) (hA : ∀ a, A a → (∃ o, H a = some o) → B a) : OddV B H' v := by
  rcases D with ⟨d, h1, h2⟩ | ⟨a, kvs, h1, h2, h3, h4, h5⟩
  · exact .inl ⟨d, h1.mono hk hA, h2⟩
  · exact .inr ⟨a, kvs, h1, hA a h2 ⟨_, h3⟩, hk _ _ h2 h3, h4, fun p hp => ⟨(h5 p hp).1, (h5 p hp).2.mono hk hA⟩⟩
theorem OddV.same {A : Addr → Prop} {H H' : Hp} {v : V} (D : OddV A H v) (k : Same H H') : OddV A H' v := D.mono (fun a o _ h => k a o h) fun _ h _ => h
theorem OddV.keep {d : Addr} {H H' : Hp} {v : V} (D : OddV (fun a => a ≠ d) H v) (k : Keep d H H') : OddV (fun a => a ≠ d) H' v := D.mono (fun a o n h => k a o n h) fun _ h _ => h
theorem OddV.dat {A : Addr → Prop} {H : Hp} {v : V} (D : OddV A H v) : Dat A H v := by
  rcases D with ⟨d, h1, h2⟩ | ⟨a, kvs, rfl, h2, h3, h4, h5⟩
  · exact h1.dat
  · exact .dK a kvs h2 h3 fun q hq => (h5 q hq).2
theorem shaped_int (i : Int) : SeqAt.shaped (.int i) = true := rfl
theorem shaped_bool (i : Bool) : SeqAt.shaped (.bool i) = true := rfl
theorem OddV.int {A : Addr → Prop} {H : Hp} (i : Int) : OddV A H (.int i) := .inl ⟨_, .int i, rfl⟩
theorem OddV.bl {A : Addr → Prop} {H : Hp} (i : Bool) : OddV A H (.bl i) := .inl ⟨_, .bl i, rfl⟩
theorem OddV.non {A : Addr → Prop} {H : Hp} : OddV A H .non := .inl ⟨_, .non, rfl⟩
theorem OddV.str {A : Addr → Prop} {H : Hp} {z : Str} (h : PyData.strOk z = true) : OddV A H (.str z) := .inl ⟨_, .str z, by
  show (PyData.canLay0 (.str z) && decide (PyData.depth (.str z) ≤ 64)) = true
  simp [PyData.canLay0, PyData.depth, h]⟩
end Toy

namespace Toy
open PySem PySem.Spec PyProof.Rows L2
/-! own exception classes with an __init__ of their own: what the written part says of them, as one flag -/
def isNew : List (Option Value) → Bool
  | _ :: _ :: _ :: _ :: some (.builtin m) :: _ :: [] => decide (m = "ValueError.__new__")
  | _ => false
def ownMro (C : Addr) : List Value → Bool
  | .ref D :: l => decide (D = C) && PySem.HandSPX.refsVE l
  | _ => false
def isTy : Value → Bool
  | .type t => decide (t = "type")
  | _ => false
def shapeB (C : Addr) (o : Obj) : Bool := isTy o.cls && isNew o.slots.toList && match o.data with
  | .cls c => ownMro C c.mro && c.hasDict && !c.hasDel
  | _ => false
theorem isNew_ok {l : List (Option Value)} (h : isNew l = true) : ∃ u v x y z, l = [u, v, x, y, some (.builtin "ValueError.__new__"), z] := by
  match l, h with
  | [u, v, x, y, some (.builtin m), z], h => exact ⟨u, v, x, y, z, by rw [of_decide_eq_true h]⟩
theorem ownMro_ok {C : Addr} {l : List Value} (h : ownMro C l = true) : ∃ r, l = .ref C :: r ∧ PySem.HandSPX.refsVE r = true := by
  match l, h with
  | .ref D :: r, h =>
    have g := Bool.and_eq_true_iff.mp h
    exact ⟨r, by rw [of_decide_eq_true g.1], g.2⟩
theorem isTy_ok {v : Value} (h : isTy v = true) : v = .type "type" := by
  match v, h with
  | .type t, h => rw [of_decide_eq_true h]
theorem shape_ok {C : Addr} {o : Obj} (h : shapeB C o = true) : ∃ nm q N bs bm sn sub ab col dd u v x y z, o = excClassObj nm q C N bs bm true sn sub ab col dd u v x y z "ValueError.__new__" ∧ PySem.HandSPX.refsVE bm = true := by
  obtain ⟨cl, dd, dt, ⟨sl⟩⟩ := o
  unfold shapeB at h
  have g := Bool.and_eq_true_iff.mp h
  have g1 := Bool.and_eq_true_iff.mp g.1
  have hc : cl = .type "type" := isTy_ok g1.1
  obtain ⟨u, v, x, y, z, hs⟩ := isNew_ok g1.2
  have hs : sl = _ := hs
  cases dt with
  | cls c =>
    have g2 := Bool.and_eq_true_iff.mp g.2
    have g3 := Bool.and_eq_true_iff.mp g2.1
    obtain ⟨nm, bs, mro, N, q, hd, sn, sub, ab, col, del⟩ := c
    obtain ⟨bm, hm, hr⟩ := ownMro_ok g3.1
    have hm : mro = _ := hm
    have hd' : hd = true := g3.2
    have hl : del = false := by
      have e : (!del) = true := g2.2
      cases del <;> first | rfl | cases e
    subst hm hc hs hd' hl
    exact ⟨nm, q, N, bs, bm, sn, sub, ab, col, dd, u, v, x, y, z, rfl, hr⟩
  | _ => cases g.2
def oexB (K : PySem.W.Frag) (C : Addr) : Bool := (K.lookup C).any (shapeB C) && xfB K C && PySem.W.keepIn K (.ref C) && decide (PySem.W.typeIn K (.ref C) = some (.type "type")) && decide (PySem.W.findIn K (.ref C) "__setattr__" = some (some (.builtin "object.__setattr__")))
theorem oexB_ok {K : PySem.W.Frag} {C : Addr} (h : oexB K C = true) : OexC K C ∧ XfC K C := by
  have g1 := Bool.and_eq_true_iff.mp h
  have g2 := Bool.and_eq_true_iff.mp g1.1
  have g3 := Bool.and_eq_true_iff.mp g2.1
  have g4 := Bool.and_eq_true_iff.mp g3.1
  have x := xfB_ok g4.2
  obtain ⟨o, ho, hs⟩ := Option.any_eq_true _ _ |>.mp g4.1
  obtain ⟨nm, q, N, bs, bm, sn, sub, ab, col, dd, u, v, w, y, z, rfl, hr⟩ := shape_ok hs
  exact ⟨⟨⟨nm, q, N, bs, bm, sn, sub, ab, col, dd, u, v, w, y, z, ho, hr⟩, of_decide_eq_true g1.2, x.exC, of_decide_eq_true g2.2, g3.2⟩, x⟩
/-! a head that asks one more flag of the written part -/
abbrev AlX : Type := He.AlD × Bool
def obsX (fa : List He.Fa) (fn : List He.DefD) (b : PySem.W.Frag → Bool) (K : PySem.W.Frag) : AlX := (He.obsD fa fn K, b K)
def obsXG (n : Nat) (fa : List He.Fa) (fn : List He.DefD) (b : PySem.W.Frag → Bool) (g : Addr → Option Obj) : AlX := obsX fa fn b (He.frG g (He.asD g n))
def hookX (n : Nat) (fa : List He.Fa) (fn : List He.DefD) (b : PySem.W.Frag → Bool) : PySem.W.Hook where
  α := AlX
  obs := fun s => obsXG n fa fn b s.heap.get?
  val := fun _ => (He.valD fn, true)
  says := fun _ h => ∃ K : PySem.W.Frag, K.In h ∧ He.SaysD fa fn K ∧ b K = true
  of := fun _ _ e => ⟨_, He.frG_in, congrArg Prod.fst e, congrArg Prod.snd e⟩
  keeps := fun _ _ _ ⟨K, hK, c, e⟩ k => ⟨K, PySem.W.Frag.In.keeps hK k, c, e⟩
theorem obsXG_eq {n : Nat} {fa : List He.Fa} {fn : List He.DefD} {b : PySem.W.Frag → Bool} {g : Addr → Option Obj} {s : Shared} (h : ∀ a, g a = s.heap.get? a) : obsXG n fa fn b g = (hookX n fa fn b).obs s := by
  have e : g = s.heap.get? := funext h
  rw [e] <;> rfl
/-! defs and methods that may raise -/
section
variable {P : Program} {w : World} {K : PySem.W.Frag} {mg : Str → Option Value} {base : Heap}
def OkX (P : Program) (w : World) (K : PySem.W.Frag) (mg : Str → Option Value) (base : Heap) (k : Nat) (x : Str) (ps : List Str) (sp : Sp) : Prop :=
  ∃ (f : Addr) (fd : FuncData), mg x = some (.ref f) ∧ PySem.W.keepIn K (.ref f) = true ∧ Binds K fd ps [] ∧ FnOk P w K mg base (L2.CX P w) k f fd ps sp
theorem okX_of {x : Str} {st : Stmt} {N ps : List Str} {k : Nat} {sp : Sp} (D : DefAt K mg x st ps) (S : FnScope N ps (defScope st)) (len : ∀ vs H Q E, sp vs H Q E → vs.length = ps.length)
    (hbody : ∀ (f : Addr) (cdv : Value) (A : Around) (outer : List Env) (s : Shared) (H : Hp) (vs : List V) (Q : VK) (E : XK), Room k (A.deeper (envOfC x (defScope st) s.heap.objs.size f cdv)) → sp vs H Q E →
      ∃ t, PSs (cxOf (L2.CX P w) P w K mg base N x (defScope st) f cdv A outer s H E) (defBody st) t ∧ t { nx := fun _ H' => Q .non H', rt := Q } (start N vs) H) : OkX P w K mg base (k + 1) x ps sp := by
  obtain ⟨f, fd, m, F, b⟩ := D.h
  exact ⟨f, fd, m, F.kp, b, F.okX S len fun cdv A outer s H vs Q E hr h => hbody f cdv A outer s H vs Q E hr h⟩
theorem okMX_of {m qual : Str} {C : Addr} {st : Stmt} {N ps : List Str} {k : Nat} {sp : Sp} (D : MethAt K C m qual st ps) (S : FnScope N ps (defScope st)) (len : ∀ vs H Q E, sp vs H Q E → vs.length = ps.length)
    (hbody : ∀ (f : Addr) (cdv : Value) (A : Around) (outer : List Env) (s : Shared) (H : Hp) (vs : List V) (Q : VK) (E : XK), Room k (A.deeper (envOfC qual (defScope st) s.heap.objs.size f cdv)) → sp vs H Q E →
      ∃ t, PSs (cxOf (L2.CX P w) P w K mg base N qual (defScope st) f cdv A outer s H E) (defBody st) t ∧ t { nx := fun _ H' => Q .non H', rt := Q } (start N vs) H) : OkM P w K mg base (L2.CX P w) (k + 1) C m ps sp := by
  obtain ⟨f, fd, M, F, b⟩ := D.h
  exact ⟨f, fd, M, b, F.okX S len fun cdv A outer s H vs Q E hr h => hbody f cdv A outer s H vs Q E hr h⟩
/-- an error class with an __init__ that keeps its one argument -/
structure ExcAt (K : PySem.W.Frag) (mg : Str → Option Value) (x : Str) (C : Addr) (f : Str) (st : Stmt) : Prop where
  mg : mg x = some (.ref C)
  T : OexC K C
  X : XfC K C
  no : PySem.W.findIn K (.ref C) f = some none
  h : ∃ (fI : Addr) (fd : FuncData) (q : Str), PySem.W.findIn K (.ref C) "__init__" = some (some (.ref fI)) ∧ PySem.W.typeIn K (.ref fI) = some (.type "function") ∧ Fun K "__init__" q st fI fd ∧ Binds K fd ["self", f] []
def spInitF (K : PySem.W.Frag) (f : Str) : Sp := fun vs H Q _ => ∃ (a C : Addr) (v : V), vs = [.ref a, v] ∧ OexC K C ∧ PySem.W.findIn K (.ref C) f = some none ∧ H a = some (exo a C none) ∧
  ∀ dx, H dx = none → dx ≠ a → Q .non (upd (upd H dx (exd dx [(f, v)])) a (exo a C (some dx)))
theorem init_raise {K : PySem.W.Frag} {f : Str} {H : Hp} {v : V} {C : Addr} {Q : XK} (T : OexC K C) (hno : PySem.W.findIn K (.ref C) f = some none) (h : ∀ d H', Same H H' → H d = none → H' d = some (.xd [(f, v)]) → Q (.ref C) (some d) H') :
    ∀ a, H a = none → spInitF K f (.ref a :: ([v] ++ [])) (upd H a (exo a C none)) (fun v' H2 => v' = .non ∧ ∃ (d : Addr) (fs : List (Str × V)), H2 a = some (exo a C (some d)) ∧ H2 d = some (exd d fs) ∧ H d = none ∧ Q (.ref C) (some d) (upd (L2.del H2 a) d (.xd fs))) (fun _ _ _ => False) := by
  intro a na
  refine ⟨a, C, v, rfl, T, hno, upd_same, fun dx ndx ne => ⟨rfl, dx, _, upd_same, ?_, ?_, h dx _ ?_ ?_ upd_same⟩⟩
  · rw [upd_ne ne]; exact upd_same
  · rw [upd_ne ne] at ndx; exact ndx
  · intro b o e
    have hba : b ≠ a := ne_of_none e na
    have hbd : b ≠ dx := by
      rw [upd_ne ne] at ndx; exact ne_of_none e ndx
    rw [upd_ne hbd, del_ne hba, upd_ne hba, upd_ne hbd, upd_ne hba]
    exact e
  · rw [upd_ne ne] at ndx; exact ndx
end
/-! a method's call in a try's body: what it may let out hangs on the slots -/
def tMethA (C : Addr) (m : Str) (sp : Sp) (E : L2.St → XK) (to : TE) (t : TA) : TE := fun σ H Q => to σ H fun y G => ∃ p x l, y = .ref p ∧ G p = some (.ins C x l) ∧ l.lookup m = none ∧ t σ G fun ys G2 => sp (y :: ys) G2 Q (E σ)
/-- how the call of a method is gone through -/
def CallOfMeth (X : Cx) (o : Expr) (m : Str) (es : List Expr) (ap cp : Pos) (pl : Sem Bool) : Prop :=
  eval (.Call (.Attribute o m ap) es [] cp) X.env = (do let y ← eval o X.env; standAt ap.atName; let (g, l) ← holding [y] (getMethod y m pl); callWith cp g l (backTo cp (starEach es X.env)) (backToKw cp (keywordEach [] X.env)))
theorem pe_methA {X : Cx} {CX : CXT} {k : Nat} {f C : Addr} {fd : FuncData} {ps : List Str} {sp : Sp} {E : L2.St → XK} {m : Str} {ap cp : Pos} {o e : Expr} {es : List Expr} {to : TE} {t : TA} {pl : Sem Bool}
    (ho : PE X o to) (cl : Cls X.K C) (me : Meth X.K C m f) (F : FnOk X.prog X.w X.K X.mg X.base CX k f fd ps sp) (rm : Room k X.A) (bi : Binds X.K fd ps []) (pa : ∀ σ, PassesAt CX X σ (E σ)) (ha : PA X (e :: es) t)
    (h1 : starEach (e :: es) X.env = (false, eval e X.env) :: starEach es X.env := by rfl) (h2 : (backTo cp (starEach es X.env)).any (·.1) = false := by rfl) (h3 : CallOfMeth X o m (e :: es) ap cp pl := by rfl) :
    PE X (.Call (.Attribute o m ap) (e :: es) [] cp) (tMethA C m sp E to t) := .mk fun pins s σ H Q I h => by
  apply PySem.W.methodCall_KW (pl := pl) _ h3
  apply thn (ho.run pins s σ H _ I h)
  rintro u s1 ⟨y, G, I1, ry, p, x, l, rfl, hp, hl, q⟩
  cases (show u = Value.ref p from ry)
  apply getmeth_ok I1 hp cl me hl
  apply PySem.W.callWith_K (first := [.ref p]) (h₀ := X.base) I.ok.mod.kin me.kp _ h1 h2
  apply thn (ha.run cp pins s1 σ G _ I1 q)
  rintro us s2 ⟨ys, G2, I2, rs, q2⟩
  exact ⟨I2.kIn, run_fnS (vs := .ref p :: ys) F rm bi (pa σ) I2 (.cons rfl rs) q2⟩
/-! try with several clauses, with a name or without -/
abbrev Clause := Value × Option Nat × (Addr → Value → Option Addr → TS)
def wManyA (K : PySem.W.Frag) (Wout : WX) (D : Ends) : List Clause → WX
  | [] => Wout
  | (c, none, ts) :: r => fun cls d σ H => ∃ b, PySem.W.exmOne K cls c = some b ∧ (b = true → ∀ a, H a = none → ts a cls d D σ H) ∧ (b = false → wManyA K Wout D r cls d σ H)
  | (c, some i, ts) :: r => fun cls d σ H => ∃ b, PySem.W.exmOne K cls c = some b ∧
      (b = true → ∀ a, H a = none → ts a cls d { nx := fun σ' H' => D.nx (σ'.set i none) H', rt := D.rt, bk := fun σ' H' => D.bk (σ'.set i none) H', ct := fun σ' H' => D.ct (σ'.set i none) H' } (σ.set i (some (.ref a))) H) ∧
      (b = false → wManyA K Wout D r cls d σ H)
inductive HdsA (X : Cx) : List ExceptHandler → List Clause → Prop
  | nil : HdsA X [] []
  | cons {x : Str} {c : Value} {ts : Addr → Value → Option Addr → TS} {b₀ : Stmt} {suite : List Stmt} {np pos' : Pos} {hds : List ExceptHandler} {l : List Clause} (hc : Names X x c)
      (hsu : ∀ (a : Addr) (oe : Obj) (cls : Value) (d : Option Addr) (pn : List (Addr × Obj)), Zc cls d oe → (∃ vs, oe.data = .fields vs) → PSs (X.suite a ((a, oe) :: pn)) (b₀ :: suite) (ts a cls d)) (r : HdsA X hds l) :
      HdsA X (.ExceptHandler (some (.Name x np)) none (b₀ :: suite) pos' :: hds) ((c, none, ts) :: l)
  | consA {x n : Str} {c : Value} {i : Nat} {ts : Addr → Value → Option Addr → TS} {b₀ : Stmt} {suite : List Stmt} {np pos' : Pos} {hds : List ExceptHandler} {l : List Clause} (hi : X.N[i]? = some n) (hln : X.env.kindOf n = some .local) (hc : Names X x c)
      (hsu : ∀ (a : Addr) (oe : Obj) (cls : Value) (d : Option Addr) (pn : List (Addr × Obj)), Zc cls d oe → (∃ vs, oe.data = .fields vs) → PSs (X.suite a ((a, oe) :: pn)) (b₀ :: suite) (ts a cls d)) (r : HdsA X hds l) :
      HdsA X (.ExceptHandler (some (.Name x np)) (some n) (b₀ :: suite) pos' :: hds) ((c, some i, ts) :: l)
section
variable {X : Cx} {pins : List (Addr × Obj)} {σ : L2.St} {H : Hp} {a : Addr} {cls : Value} {d : Option Addr} {B : Heap} {sI s : Shared}
/-- an error at a, of the class cls and with the dict d, has come down in X's def: sI is the state without it -/
structure Ground (X : Cx) (pins : List (Addr × Obj)) (σ : L2.St) (H : Hp) (a : Addr) (cls : Value) (d : Option Addr) (B : Heap) (sI s : Shared) : Prop where
  inv : Inv X pins σ H sI
  old : ∀ b o, sI.heap.get? b = some o → b ∉ frs X.stack → B.get? b = some o
  fly : HandSPX.FlyingZ B (X.env :: X.outer) a (Zc cls d) s.heap
  up : sI.heap.UpToSlots s.heap
  free : H a = none
  os : s.os = sI.os
  bare : AllBare s.gens
theorem Ground.now (g : Ground X pins σ H a cls d B sI s) : Inv X pins σ H s := g.inv.landed g.old g.fly.1 g.up g.os g.bare
theorem Ground.on (g : Ground X pins σ H a cls d B sI s) {h : Heap} (f : HandSPX.FlyingZ B (X.env :: X.outer) a (Zc cls d) h) (u : s.heap.UpToSlots h) : Ground X pins σ H a cls d B sI { s with heap := h } :=
  { inv := g.inv, old := g.old, fly := f, up := g.up.trans u, free := g.free, os := g.os, bare := g.bare }
/-- it is no frame of a def -/
theorem Ground.noFrame (g : Ground X pins σ H a cls d B sI s) : ¬ a ∈ frs (X.env :: X.outer) := by
  obtain ⟨oe, vs, e1, _, e2⟩ := g.fly.there
  intro m
  obtain ⟨_, u, e3, no⟩ := g.fly.2.2.1.mem m
  cases e1.symm.trans e3
  exact no vs e2
/-- what a clause's suite begins with -/
theorem Ground.seen (g : Ground X pins σ H a cls d B sI s) (hf : X.env.frame = some X.env.locals) : ∃ oe, s.heap.get? a = some oe ∧ Zc cls d oe ∧ (∃ vs, oe.data = .fields vs) ∧ Inv (X.suite a ((a, oe) :: (X.pn ++ pins))) [] σ H s := by
  obtain ⟨oe, vs, e1, z, e2⟩ := g.fly.there
  have no := g.noFrame
  refine ⟨oe, e1, z, ⟨vs, e2⟩, g.now.suite e1 e2 g.free (fun w => no ?_) fun w => no ?_⟩
  · subst w
    exact List.mem_filterMap.mpr ⟨X.env, .head _, hf⟩
  · have ⟨v, hv, ev⟩ := List.mem_filterMap.mp w
    exact List.mem_filterMap.mpr ⟨v, .tail _ hv, ev⟩
/-- the clause's class is asked for -/
theorem Ground.asked (g : Ground X pins σ H a cls d B sI s) (hf : X.env.frame = some X.env.locals) {x : Str} {c : Value} {np : Pos} {b : Bool} {Q : Bool → Shared → Prop} {E E' : Value → Shared → Prop} (hc : Names X x c) (hx : PySem.W.exmOne X.K cls c = some b) (q : Q b s) :
    wpAny (model X.prog X.w) (X.A.mark (some (.ref a))) (eval (.Name x np) X.env) (fun v t => wpAny (model X.prog X.w) (X.A.mark (some (.ref a))) (excMatches (.ref a) v) Q E t) E' s := by
  obtain ⟨oe, e1, z, _, S⟩ := g.seen hf
  have ty : PySem.W.Looks (model X.prog X.w) s.heap (typeOf (.ref a)) cls := fun _ _ _ _ kp r => wpAny_typeOf_ref (kp a oe e1) (z.1 ▸ r)
  have go := (PySem.W.exm_one (M := model X.prog X.w) g.now.kIn ty hx).here (A := X.A.mark (some (.ref a))) (E := E) q
  rcases hc.2.2 with m | ⟨m, v, n⟩
  · exact ld_glob (X := X.suite a ((a, oe) :: (X.pn ++ pins))) S hc.1 m go hc.2.1
  · exact ld_blt (X := X.suite a ((a, oe) :: (X.pn ++ pins))) S hc.1 m v go n hc.2.1
/-- no clause is left: it goes on -/
theorem Ground.goes (g : Ground X pins σ H a cls d B sI s) (hs : X.stack = X.env :: X.outer) (hf : X.env.frame = some X.env.locals) {W : WX} (tk : Takes X W) {Q : Flow → Shared → Prop} (w : W cls d σ H) :
    wpAny (model X.prog X.w) X.A (handleBy (.ref a) X.env []) Q X.xe s := by
  apply wpAny_handleBy_nil
  have off : ∀ {Q' : Flow → Shared → Prop}, wpAny (model X.prog X.w) X.A (setFlight (.ref a) X.env.frame) (fun _ t => wpAny (model X.prog X.w) X.A (throw (.ref a) : Sem Flow) Q' X.xe t) X.xe s := fun {Q'} => by
    rw [hf]
    apply HandSPX.setFlight_upZ g.fly
    intro h held u
    apply wpAny_throw
    apply tk
    exact ⟨a, B, sI, pins, σ, H, cls, d, rfl, g.inv, g.old, g.up.trans u, .inr (.inr (hs ▸ held)), g.free, g.os, g.bare, w⟩
  have ⟨_, _, _, oe, vs, T, _, _, e1, _, e2, e3, _⟩ := g.fly
  show wpAny _ _ (PySem.passOn _ _ _) _ _ _
  unfold PySem.passOn
  apply wpAny_bind
  apply wpAny_field e1 e2 e3
  rw [if_neg (by simp)]
  first
    | exact wpAny_bind (wpAny_pure (wpAny_bind off))
    | exact wpAny_bind off
/-- the ends of a suite are those of the try -/
theorem suite_ends {q : Addr × Obj} {D : Ends} {f : Flow} {t : Shared} (ok : X.Ok) (h : SP (X.suite a (q :: (X.pn ++ pins))) [] D f t) : SP X pins D f t := by
  cases f with
  | ret u => exact let ⟨v, τ, G, S, r, w⟩ := h; ⟨v, τ, G, S.unsuite ok, r, w⟩
  | next => exact let ⟨τ, G, S, w⟩ := h; ⟨τ, G, S.unsuite ok, w⟩
  | brk => exact let ⟨τ, G, S, w⟩ := h; ⟨τ, G, S.unsuite ok, w⟩
  | cont => exact let ⟨τ, G, S, w⟩ := h; ⟨τ, G, S.unsuite ok, w⟩
/-- the clauses one after the other -/
theorem Ground.clauses (hs : X.stack = X.env :: X.outer) (hf : X.env.frame = some X.env.locals) (hN : X.N.Nodup) {W : WX} (tk : Takes X W) {D : Ends} {hds : List ExceptHandler} {l : List Clause} (hh : HdsA X hds l) :
    ∀ {s : Shared}, Ground X pins σ H a cls d B sI s → wManyA X.K W D l cls d σ H → wpAny (model X.prog X.w) X.A (handleBy (.ref a) X.env hds) (SP X pins D) X.xe s := by
  induction hh with
  | nil => exact fun g w => g.goes hs hf tk w
  | cons hc hsu _ ih =>
    rintro s g ⟨b, hx, hy, hn⟩
    apply wpAny_handleBy_cons (codeAny_handlers_test (g.asked hf hc hx ?_)) nofun
    cases b
    · exact ih g (hn rfl)
    · apply codeAny_handlers_suite
      apply HandSPX.lands_againZ g.fly
      intro h f u
      have g2 := g.on f u
      obtain ⟨oe, _, z, fs, S⟩ := g2.seen hf
      exact wpAny_mono ((hsu a oe cls d (X.pn ++ pins) z fs).run [] _ σ H _ S (hy rfl a g.free)) (fun _ _ r => suite_ends g.inv.ok r) fun _ _ r => r.elim
  | @consA x n c i ts b₀ st np p' hds2 l2 hi hln hc hsu _ ih =>
    rintro s g ⟨b, hx, hy, hn⟩
    apply wpAny_handleBy_cons (codeAny_handlers_test (g.asked hf hc hx ?_)) nofun
    cases b
    · exact ih g (hn rfl)
    · apply codeAny_handlers_suite_as
      apply HandSPX.lands_againZ g.fly
      intro h f u
      have g2 := g.on f u
      obtain ⟨oe, _, z, fs, S⟩ := g2.seen hf
      apply store_ok (X := X.suite a ((a, oe) :: (X.pn ++ pins))) (v := .ref a) S hN hi (.inl hln) rfl _ (.inr hln)
      intro s2 S2
      refine wpAny_mono ((hsu a oe cls d (X.pn ++ pins) z fs).run [] s2 _ H _ S2 (hy rfl a g.free)) (fun fl s3 r => ?_) fun _ _ r => r.elim
      have gone : ∀ {τ : L2.St} {G : Hp} {P : Shared → Prop}, Inv X pins τ G s3 → (∀ s4, Inv X pins (τ.set i none) G s4 → P s4) → wpAny (model X.prog X.w) X.A (do bindName X.env n .none; unbindBehindTheSuite X.env n p') (fun _ s4 => P s4) X.xe s3 := fun J k => gone_ok J hN hi hln k
      have r2 := suite_ends g.inv.ok r
      cases fl with
      | ret u => exact let ⟨v, τ, G, J, rv, w⟩ := r2; gone J fun s4 J4 => ⟨v, _, G, J4, rv, w⟩
      | next => exact let ⟨τ, G, J, w⟩ := r2; gone J fun s4 J4 => ⟨_, G, J4, w⟩
      | brk => exact let ⟨τ, G, J, w⟩ := r2; gone J fun s4 J4 => ⟨_, G, J4, w⟩
      | cont => exact let ⟨τ, G, J, w⟩ := r2; gone J fun s4 J4 => ⟨_, G, J4, w⟩
/-- the ends of a try's body are those of the try -/
theorem body_ends {pn : List (Addr × Obj)} {xe : Value → Shared → Prop} {D : Ends} {f : Flow} {t : Shared} (ok : X.Ok) (h : SP (X.tr pn xe) [] D f t) (hp : ∀ {τ : L2.St} {G : Hp}, Inv (X.tr pn xe) [] τ G t → Inv X pins τ G t) : SP X pins D f t := by
  cases f with
  | ret u => exact let ⟨v, τ, G, S, r, w⟩ := h; ⟨v, τ, G, hp S, r, w⟩
  | next => exact let ⟨τ, G, S, w⟩ := h; ⟨τ, G, hp S, w⟩
  | brk => exact let ⟨τ, G, S, w⟩ := h; ⟨τ, G, hp S, w⟩
  | cont => exact let ⟨τ, G, S, w⟩ := h; ⟨τ, G, hp S, w⟩
end
theorem ps_try_manyA {X : Cx} {body : List Stmt} {h₀ : ExceptHandler} {hds : List ExceptHandler} {l : List Clause} {pos : Pos} {tb : WX → TS} {W : WX} (hs : X.stack = X.env :: X.outer) (hf : X.env.frame = some X.env.locals) (hN : X.N.Nodup) (tk : Takes X W)
    (hb : ∀ (V : WX) (pn : List (Addr × Obj)) (xe : Value → Shared → Prop), Takes (X.tr pn xe) V → PassesOwn (model X.prog X.w) X.A X.env xe → PSs (X.tr pn xe) body (tb V)) (hh : HdsA X (h₀ :: hds) l) :
    PS X (.Try body (h₀ :: hds) [] [] pos) (fun D σ H => tb (wManyA X.K W D l) D σ H) := .mk fun pins s σ H D I h => by
  have ok := I.ok
  have fr : X.A.frames = some (X.env :: X.outer) := hs ▸ ok.frames
  apply wpAny_Try_except
  let xe : Value → Shared → Prop := fun e t => wpAny (model X.prog X.w) X.A (noteFrame e X.env) (fun _ t2 => wpAny (model X.prog X.w) X.A (setFlight e none) (fun _ t3 => wpAny (model X.prog X.w) X.A (handleBy e X.env (h₀ :: hds)) (SP X pins D) X.xe t3) X.xe t2) X.xe t
  have run := (hb (wManyA X.K W D l) (X.pn ++ pins) xe (fun u t x => by
    obtain ⟨a, B, sI, ps, τ, G, cls, d, rfl, J, old, up, sky, free, os, bare, w⟩ := x
    apply Sky.land Zc.steady fr hf (hs ▸ sky)
    intro g fl u
    exact Ground.clauses hs hf hN tk hh { inv := J.ofTry ok, old := old, fly := fl, up := up.trans u, free := free, os := os, bare := bare } w) PassesOwn.looking).run [] s σ H D (I.toTry _) h
  refine wpAny_mono run (fun f t r => ?_) fun _ _ r => r
  have r2 := body_ends (pins := pins) ok r fun S => S.ofTry ok
  cases f with
  | next => exact wpAny_execs_nil r2
  | _ => exact r2
end Toy

namespace Toy
open PySem PySem.Spec PyProof.Rows L2
/-! isinstance with built-in types, of things that may be objects of own classes -/
def six : List String := ["bool", "int", "str", "list", "tuple", "dict"]
/-- no object of the class C is of one of the six types -/
def plainB (K : PySem.W.Frag) (C : Addr) : Bool := six.all fun T => decide (PySem.W.kitOne K (.ref C) (.type T) = some false)
theorem plainB_ok {K : PySem.W.Frag} {C : Addr} (h : plainB K C = true) {T : String} (m : T ∈ six) : PySem.W.kitOne K (.ref C) (.type T) = some false := of_decide_eq_true (List.all_eq_true.mp h T m)
/-- what the written part says of a class whose objects are asked for: `__class__` is found at object, and is read by its getter -/
abbrev clsG : Value := .builtin "object.__class__"
abbrev askG (K : PySem.W.Frag) (C : Addr) : Option (Option Value) × Option (Option Value) × Option Bool × Option Bool := (PySem.W.findIn K (.ref C) "__class__", PySem.W.specialIn K clsG "__get__", PySem.W.takesIn K clsG, PySem.W.mroIn K C (.type "object"))
def insB (K : PySem.W.Frag) (C : Addr) : Bool := plainB K C && decide (askG K C = (some (some clsG), some (some (.builtin "getset_descriptor.__get__")), some true, some true))
structure AskC (K : PySem.W.Frag) (C : Addr) : Prop where
  plain : plainB K C = true
  all : askG K C = (some (some clsG), some (some (.builtin "getset_descriptor.__get__")), some true, some true)
theorem insB_ok {K : PySem.W.Frag} {C : Addr} (h : insB K C = true) : AskC K C := ⟨(Bool.and_eq_true_iff.mp h).1, of_decide_eq_true (Bool.and_eq_true_iff.mp h).2⟩
section
variable {K : PySem.W.Frag} {C : Addr} (i : AskC K C)
include i
theorem AskC.gives : PySem.W.findIn K (.ref C) "__class__" = some (some clsG) := congrArg (·.1) i.all
theorem AskC.reads : PySem.W.specialIn K clsG "__get__" = some (some (.builtin "getset_descriptor.__get__")) := congrArg (·.2.1) i.all
theorem AskC.takes : PySem.W.takesIn K clsG = some true := congrArg (·.2.2.1) i.all
theorem AskC.roots : PySem.W.mroIn K C (.type "object") = some true := congrArg (·.2.2.2) i.all
end
/-- an error as a value -/
structure ErrC (K : PySem.W.Frag) (C : Addr) : Prop where
  ins : AskC K C
  x : XfC K C
/-- the name of the built-in type, "object" for an object of an own class -/
inductive TyG (K : PySem.W.Frag) (H : Hp) : V → String → Prop
  | blt {v : V} {n : String} : tyN H v = some n → TyG K H v n
  | ins {a C dx : Addr} {fs : List (Str × V)} : H a = some (.ins C dx fs) → Cls K C → AskC K C → TyG K H (.ref a) "object"
  | err {a C : Addr} : H a = some (ExO (.ref C) a) → ErrC K C → TyG K H (.ref a) "object"
theorem TyG.same {K : PySem.W.Frag} {H H' : Hp} {v : V} {n : String} (h : TyG K H v n) (k : Same H H') : TyG K H' v n := by
  cases h with
  | blt h => exact .blt (tyN_keep k h)
  | ins h c i => exact .ins (k _ _ h) c i
  | err h c => exact .err (k _ _ h) c
/-- .. of a class without an __init__ of its own -/
def vbm : List Value := [.type "ValueError", .type "Exception", .type "BaseException", .type "object"]
def errB (K : PySem.W.Frag) (C : Addr) : Bool := insB K C && xfB K C && PySem.W.excIn K C vbm "ValueError.__new__" && PySem.W.keepIn K (.ref C) && decide (PySem.W.typeIn K (.ref C) = some (.type "type"))
structure ErrX (K : PySem.W.Frag) (C : Addr) : Prop where
  er : ErrC K C
  ex : PySem.W.excIn K C [.type "ValueError", .type "Exception", .type "BaseException", .type "object"] "ValueError.__new__" = true
  kp : (PySem.W.keepIn K (.ref C)) = true
  ty : PySem.W.typeIn K (.ref C) = some (.type "type")
theorem errX_ok {K : PySem.W.Frag} {C : Addr} (h : errB K C = true) : ErrX K C := by
  simp only [errB, Bool.and_eq_true, decide_eq_true_eq] at h
  exact ⟨⟨insB_ok h.1.1.1.1, xfB_ok h.1.1.1.2⟩, h.1.1.2, h.1.2, h.2⟩
section
variable {X : Cx}
def isOf (n T : String) : Bool := n == T || (n == "bool" && T == "int")
def rIsG (K : PySem.W.Frag) (T : String) : List V → Hp → VK → Prop := fun xs H Q => ∃ (x : V) (n : String), xs = [x, .ty T] ∧ TyG K H x n ∧ Q (.bl (isOf n T)) H
theorem call_isG {T : String} (m : T ∈ six) : CallR X (.builtin "isinstance") (rIsG X.K T) := by
  intro pins s σ H xs us Q I r h
  obtain ⟨x, n, e, ty, q⟩ := h
  have hob : isOf "object" T = false := by
    unfold six at m
    simp only [List.mem_cons, List.not_mem_nil, or_false] at m
    rcases m with rfl | rfl | rfl | rfl | rfl | rfl <;> rfl
  cases ty with
  | blt hb => exact call_isN pins s σ H xs us Q I r ⟨x, n, _, e, hb, kit7 hb m, q⟩
  | ins ha c i =>
    rw [hob] at q
    exact call_isi pins s σ H xs us Q I r ⟨_, .ty T, .ref _, .type T, false, e, .ty T, .base (.ins ha c i.gives i.reads i.takes i.roots), plainB_ok i.plain m, q⟩
  | @err a C ha c =>
    rw [hob] at q
    subst e
    obtain ⟨u1, u2, rfl, r1, r2⟩ : ∃ u1 u2, us = [u1, u2] ∧ RelV (.ref a) u1 ∧ RelV (.ty T) u2 := by
      cases r with
      | cons p1 t => cases t with
        | cons p2 t => cases t with
          | nil => exact ⟨_, _, rfl, p1, p2⟩
    have e1 : u1 = .ref a := r1
    have e2 : u2 = .type T := r2
    subst e1 e2
    obtain ⟨⟨oe, vs, hget, hz, hf, _⟩, _⟩ := I.hok a _ ha
    have at_ : PySem.W.InstAt s.heap a oe C none := by
      cases oe with
      | mk oc od oda osl =>
        have z1 : oc = .ref C := hz.1
        have z2 : od = none := hz.2
        have z3 : oda = .fields vs := hf
        subst z1 z2 z3
        exact .mk hget rfl rfl trivial
    exact PySem.W.kia_one (PySem.W.handS_kitx_exc c.x.ga c.x.gg c.x.exC c.x.hdC c.ins.gives c.ins.reads c.ins.takes c.ins.roots) I.kIn at_ (plainB_ok c.ins.plain m) (fun z => nomatch z) fun tk => ⟨.bl false, H, I.tok tk, rfl, q⟩
/-- X(), an error class without an __init__: a new error, not raised -/
theorem pe_err0 {C : Addr} {bm : List Value} {B nw ini : String} {x : Str} {p pos : Pos} (F : ExcBaseFacts B nw ini bm) (q : PySem.W.excIn X.K C bm nw = true) (m : X.mg x = some (.ref C)) (k : PySem.W.keepIn X.K (.ref C) = true) (g : Gl X x) (hd : (x == ("__debug__" : Str)) = false := by decide) :
    PE X (.Call (.Name x p) [] [] pos) (fun _ H Q => ∀ a, H a = none → Q (.ref a) (upd H a (ExO (.ref C) a))) := .mk fun pins s σ H Q I h => by
  have done : wpAny (model X.prog X.w) X.A (call (.ref C) ([] ++ [])) (EP X pins σ Q) X.xe s := by
    obtain ⟨_, _, _, _, _, _, _, _, _, _, _, _, _, _, _, _, _, there, ns, no, tail⟩ := exc_obj I.kIn q
    apply wpAny_call_exc_subT F tail there ns no (hrest := Nat.zero_le _)
    intro h2 e new
    have free := I.hok.gone new.new
    have ⟨_, at_, _⟩ := new.there
    exact ⟨.ref e, upd H e (ExO (.ref C) e), I.laidN new.keeps new.new free (exO_ok at_ ⟨rfl, rfl⟩ rfl rfl rfl (show 4 < 6 from by decide)), rfl, h e free⟩
  exact wpAny_Call_Name_kw (ld_glob I g m (PySem.W.callWith_K0 I.kIn k done) hd)
end
end Toy

namespace Toy
open PySem PySem.Spec PyProof.Rows L2
/-! a thing compared with itself -/
inductive Selfy (K : PySem.W.Frag) (H : Hp) : V → Prop
  | flat {v : V} : scal v v = true → Selfy K H v
  | lst {a : Addr} {xs : List V} : SqL K H a xs → Selfy K H (.ref a)
  | tup {a : Addr} {xs : List V} : SqT K H a xs → Selfy K H (.ref a)
  | dct {a : Addr} {kvs : List (Key × V)} : H a = some (.dK kvs) → (kvs.map (·.1)).Nodup → Selfy K H (.ref a)
theorem kv_keys {ks : List (Key × V)} {vs : List (Key × Value)} (r : KV ks vs) : ks.map (·.1) = vs.map (·.1) := by
  unfold KV at r
  induction r with
  | nil => rfl
  | cons h _ ih => rw [List.map_cons, List.map_cons, ih, h.1]
theorem hits_self {A : Around} {s : Shared} {kb : List (Key × Value)} : ∀ {ka : List (Key × Value)}, (∀ p ∈ ka, valueAt kb p.1 = some p.2) → PySem.W.KeqHits A s kb ka true
  | [], _ => .nil
  | (k, v) :: r, h => PySem.W.KeqHits.hit (e := true) (b := true) (h (k, v) List.mem_cons_self) (SeqAt.EqAt.same v) (hits_self fun p m => h p (List.mem_cons_of_mem _ m))
theorem find_self {α β : Type} [DecidableEq α] : ∀ {l : List (α × β)}, (l.map (·.1)).Nodup → ∀ p ∈ l, (l.find? fun q => decide (q.1 = p.1)) = some p
  | [], _, p, m => by cases m
  | q :: l, nd, p, m => by
    rw [List.map_cons, List.nodup_cons] at nd
    rw [List.find?_cons]
    rcases List.mem_cons.mp m with rfl | m
    · simp
    · have : q.1 ≠ p.1 := fun e => nd.1 (by rw [e]; exact List.mem_map.mpr ⟨p, m, rfl⟩)
      rw [decide_eq_false this]
      exact find_self nd.2 p m
section
variable {X : Cx}
def rEqS (K : PySem.W.Frag) (b : Bool) : R2 := fun x y H Q => x = y ∧ Selfy K H x ∧ Q (.bl b) H
theorem op_eqS (hu : X.A.units + 64 < cLine) : OpR X (compareOp .Eq) (rEqS X.K true) := by
  intro pins s σ H x y v u Q I rx ry h
  obtain ⟨rfl, S, q⟩ := h
  have yes : ∀ n : Nat, (List.range n).all (fun _ => true) = true := fun n => List.all_eq_true.mpr fun _ _ => rfl
  cases S with
  | flat f => exact op_eq pins s σ H x x v u Q I rx ry ⟨f, by rw [decide_eq_true rfl]; exact q⟩
  | @lst a xs hl =>
    cases (show v = Value.ref a from rx)
    cases (show u = Value.ref a from ry)
    obtain ⟨us, _, p, _⟩ := I.list hl
    exact SeqAt.eq_listAt (e := fun _ => true) p.isList p.isList rfl (by omega) (fun j _ _ => SeqAt.EqAt.same _) (by rw [yes]; exact ⟨.bl true, H, I, rfl, q⟩)
  | @tup a xs hl =>
    cases (show v = Value.ref a from rx)
    cases (show u = Value.ref a from ry)
    obtain ⟨us, _, p, _⟩ := I.tuple hl
    exact SeqAt.eq_tupleAt (e := fun _ => true) p p (by omega) (fun j _ _ => SeqAt.EqAt.same _) (by rw [yes, beq_self_eq_true]; exact ⟨.bl true, H, I, rfl, q⟩)
  | @dct a kvs ha nd =>
    cases (show v = Value.ref a from rx)
    cases (show u = Value.ref a from ry)
    obtain ⟨_, y, vs, r, d⟩ := (show ObjOk X.prog X.w H s.heap a (.dK kvs) from I.hok a _ ha)
    refine PySem.W.keq_eq (knd := mixKind X.prog X.w) (r := true) y y d d (by omega) (fun _ => hits_self fun p m => ?_) ?_
    · show ((vs.find? fun q => decide (q.1 = p.1)).map (·.2)) = some p.2
      rw [find_self (by rw [← kv_keys r]; exact nd) p m]; rfl
    · rw [beq_self_eq_true]; exact ⟨.bl true, H, I, rfl, q⟩
theorem op_neS (hu : X.A.units + 64 < cLine) : OpR X (compareOp .NotEq) (rEqS X.K false) := by
  intro pins s σ H x y v u Q I rx ry h
  obtain ⟨rfl, S, q⟩ := h
  have yes : ∀ n : Nat, (List.range n).all (fun _ => true) = true := fun n => List.all_eq_true.mpr fun _ _ => rfl
  have no : EP X pins σ Q (.bool false) s := ⟨.bl false, H, I, rfl, q⟩
  cases S with
  | flat f => exact op_ne pins s σ H x x v u Q I rx ry ⟨f, by rw [decide_eq_true rfl]; exact q⟩
  | @lst a xs hl =>
    cases (show v = Value.ref a from rx)
    cases (show u = Value.ref a from ry)
    obtain ⟨us, _, p, _⟩ := I.list hl
    exact SeqAt.RcNeAt.lists (e := fun _ => true) p.isList p.isList rfl (by omega) (fun j _ _ => SeqAt.EqAt.same _) _ _ _ _ (by rw [yes]; exact no)
  | @tup a xs hl =>
    cases (show v = Value.ref a from rx)
    cases (show u = Value.ref a from ry)
    obtain ⟨us, _, p, _⟩ := I.tuple hl
    exact SeqAt.RcNeAt.tuples (e := fun _ => true) p p (by omega) (fun j _ _ => SeqAt.EqAt.same _) _ _ _ _ (by rw [yes, beq_self_eq_true]; exact no)
  | @dct a kvs ha nd =>
    cases (show v = Value.ref a from rx)
    cases (show u = Value.ref a from ry)
    obtain ⟨_, y, vs, r, d⟩ := (show ObjOk X.prog X.w H s.heap a (.dK kvs) from I.hok a _ ha)
    refine PySem.W.keq_ne (knd := mixKind X.prog X.w) (r := true) y y d d (by omega) (fun _ => hits_self fun p m => ?_) ?_
    · show ((vs.find? fun q => decide (q.1 = p.1)).map (·.2)) = some p.2
      rw [find_self (by rw [← kv_keys r]; exact nd) p m]; rfl
    · rw [beq_self_eq_true]; exact no
end
/-! errors as values, with a field or without -/
structure ErrV (K : PySem.W.Frag) (C : Addr) : Prop where
  ask : AskC K C
  x : XfC K C
theorem any_cls {K : PySem.W.Frag} {C : Addr} (h : PySem.W.hasDictIn K C = true) : (PySem.W.clsIn K C).isSome = true := by
  unfold PySem.W.hasDictIn at h
  cases e : PySem.W.clsIn K C with
  | none => rw [e] at h; cases h
  | some _ => rfl
/-- at e an error of the class at C; its dict at d has the fields fs, where it has one -/
inductive ErrAt (H : Hp) (e C : Addr) : Prop
  | bare : H e = some (ExO (.ref C) e) → ErrAt H e C
  | kept {d : Addr} {fs : List (Str × V)} : H e = some (exo e C (some d)) → H d = some (exd d fs) → ErrAt H e C
theorem ErrAt.keep {H H' : Hp} {e C : Addr} (h : ErrAt H e C) (k : Same H H') : ErrAt H' e C := by
  cases h with
  | bare h => exact .bare (k _ _ h)
  | kept h1 h2 => exact .kept (k _ _ h1) (k _ _ h2)
section
variable {X : Cx} {pins : List (Addr × Obj)} {σ : L2.St} {H : Hp} {s : Shared}
theorem ErrAt.inst {e C : Addr} (h : ErrAt H e C) (I : Inv X pins σ H s) : ∃ oe od, PySem.W.InstAt s.heap e oe C od := by
  cases h with
  | bare h =>
    obtain ⟨⟨oe, vs, g, z, f, _⟩, _⟩ := I.hok e _ h
    obtain ⟨c, d, dt, sl⟩ := oe
    obtain ⟨z1, z2⟩ := z
    cases z1
    cases z2
    cases f
    exact ⟨_, none, g, rfl, rfl, trivial⟩
  | @kept d fs h1 h2 =>
    obtain ⟨t, g⟩ := exo_at I.hok h1
    obtain ⟨m, ns, _⟩ := exd_at I.hok h2
    obtain ⟨od, g2, _⟩ := lookIn_ns ns
    exact ⟨_, some od, g, rfl, rfl, g2⟩
end
section
variable {X : Cx}
/-- isinstance of such an error, by one class -/
def rIsEV (K : PySem.W.Frag) : List V → Hp → VK → Prop := fun xs H Q => ∃ (e C : Addr) (c : V) (u : Value) (b : Bool), xs = [.ref e, c] ∧ ErrAt H e C ∧ ErrV K C ∧ ClsV c u ∧ PySem.W.kitOne K (.ref C) u = some b ∧ Q (.bl b) H
theorem call_isEV : CallR X (.builtin "isinstance") (rIsEV X.K) := by
  intro pins s σ H xs us Q I r h
  obtain ⟨e, C, c, u, b, rfl, at_, V, k, ok, q⟩ := h
  obtain ⟨u1, u2, rfl, r1, r2⟩ := vals2 r
  cases (show u1 = Value.ref e from r1)
  cases k.eq r2
  obtain ⟨oe, od, J⟩ := at_.inst I
  exact PySem.W.kia_one (PySem.W.kitx_exc (any_cls V.x.hdC) V.x.ga V.x.gg V.x.exC V.ask.gives V.ask.reads V.ask.takes V.ask.roots) I.kIn J ok (fun z => nomatch z) fun tk => ⟨.bl b, H, I.tok tk, rfl, q⟩
/-- .. by a tuple of classes -/
def rIsEVT (K : PySem.W.Frag) : List V → Hp → VK → Prop := fun xs H Q => ∃ (e C tp : Addr) (cs : List V) (ws : List Value) (b : Bool), xs = [.ref e, .ref tp] ∧ ErrAt H e C ∧ ErrV K C ∧ H tp = some (.tup cs) ∧ Paired ClsV cs ws ∧ PySem.W.kitAny K (.ref C) ws = some b ∧ Q (.bl b) H
theorem call_isEVT : CallR X (.builtin "isinstance") (rIsEVT X.K) := by
  intro pins s σ H xs us Q I r h
  obtain ⟨e, C, tp, cs, ws, b, rfl, at_, V, ht, k, ok, q⟩ := h
  obtain ⟨u1, u2, rfl, r1, r2⟩ := vals2 r
  cases (show u1 = Value.ref e from r1)
  cases (show u2 = Value.ref tp from r2)
  obtain ⟨oe, od, J⟩ := at_.inst I
  obtain ⟨its, rv, ⟨o, g, hc, n, hd⟩, _⟩ := I.tuple (SqT.of ht)
  cases ClsV.all k rv
  obtain ⟨c, dd, dt, sl⟩ := o
  cases hc
  cases hd
  exact PySem.W.kia_tup (PySem.W.kitx_exc (any_cls V.x.hdC) V.x.ga V.x.gg V.x.exC V.ask.gives V.ask.reads V.ask.takes V.ask.roots) I.kIn J g ok (fun z => nomatch z) fun tk => ⟨.bl b, H, I.tok tk, rfl, q⟩
/-- e.f of an error that is held -/
def tXv (K : PySem.W.Frag) (f : Str) (te : TE) : TE := fun σ H Q => te σ H fun x G => ∃ (e C d : Addr) (fs : List (Str × V)) (v : V), x = .ref e ∧ G e = some (exo e C (some d)) ∧ G d = some (exd d fs) ∧ XfC K C ∧ PySem.W.findIn K (.ref C) f = some none ∧ fs.lookup f = some v ∧ Q v G
theorem pe_xv {e : Expr} {te : TE} {pos : Pos} {f : Str} (he : PE X e te) (hb : attributeBase e f X.env (eval e X.env) = eval e X.env := by rfl) : PE X (.Attribute e f pos) (tXv X.K f te) := .mk fun pins s σ H Q I h => by
  refine attr_of hb (thn (he.run pins s σ H _ I h) ?_)
  rintro u s1 ⟨x, G, I1, rx, e, C, d, fs, v, rfl, g1, g2, x5, no, l, q⟩
  cases (show u = Value.ref e from rx)
  obtain ⟨t, o1⟩ := exo_at I1.hok g1
  obtain ⟨m, ns, rel⟩ := exd_at I1.hok g2
  obtain ⟨od, o2, lk⟩ := lookIn_ns ns
  obtain ⟨u, hu, ru⟩ := RelO.some_of (v := v) (o := m f) (by rw [← l]; exact rel f)
  exact HandSPX.exc_get I1.kIn ⟨o1, rfl, rfl, o2⟩ x5.ga x5.gg x5.exC (PySem.W.findObj_own x5.hdC no rfl (by rw [lk, hu])) (handed_of ru) ⟨v, G, I1.tok _, ru, q⟩
end
section
variable {X : Cx} {pins : List (Addr × Obj)} {σ : L2.St} {H : Hp} {s : Shared}
/-- the call of an error class by its values -/
theorem made_err {CX : CXT} {k : Nat} {f : Addr} {fd : FuncData} {ps : List Str} {sp : Sp} {C : Addr} {vs : List V} {us : List Value} {Q : VK} (T : OexC X.K C) (at_ : PySem.W.findIn X.K (.ref C) "__init__" = some (some (.ref f)))
    (ty : PySem.W.typeIn X.K (.ref f) = some (.type "function")) (F : FnOk X.prog X.w X.K X.mg X.base CX k f fd ps sp) (rm : Room (k + 1) X.A) (bi : Binds X.K fd ps []) (pa : Passes CX X (fun _ _ _ => False)) (I : Inv X pins σ H s) (r : Vals vs us)
    (h : vs.length ≤ 1000 ∧ ∀ a, H a = none → sp (.ref a :: vs) (upd H a (exo a C none)) (fun v G => v = .non ∧ Q (.ref a) G) (fun _ _ _ => False)) :
    wpAny (model X.prog X.w) X.A (call (.ref C) us) (EP X pins σ Q) X.xe s := by
  obtain ⟨_, _, _, _, mr, _, _, _, _, _, _, _, _, _, _, look, tail⟩ := T.cls
  obtain ⟨hp, gs, dr, tk, os⟩ := s
  have old : hp.objs.size ≤ hp.objs.size + 1 := Nat.le_succ _
  let h1 := (hp.push (PySem.W.kdv_tup us)).push (PySem.HandSPX.excO C hp.objs.size)
  have here : h1.get? (hp.objs.size + 1) = some (PySem.HandSPX.excO C hp.objs.size) := by heap_get
  have q := h.2 _ (I.hok.fresh old)
  have J : Inv X pins σ (upd H (hp.objs.size + 1) (exo (hp.objs.size + 1) C none)) ⟨h1, gs, dr, tk, os⟩ := I.laid (t' := tk) (fun b o e => Heap.get?_push_of_some _ (Heap.get?_push_of_some _ e)) old (exo_ok here)
  have all : Vals (V.ref (hp.objs.size + 1) :: vs) (Value.ref (hp.objs.size + 1) :: us) := .cons rfl r
  have many : (Value.ref (hp.objs.size + 1) :: us ++ []).length = ps.length := by rw [List.append_nil, ← all.length]; exact F.len _ _ _ _ q
  have bd := bi ⟨h1, gs, dr, tk, os⟩ (Value.ref (hp.objs.size + 1) :: us) J.kIn many
  rw [List.append_nil] at bd
  have few : us.length ≤ sizeLine := by rw [← Paired.length r]; exact Nat.le_trans h.1 (by decide)
  have run := F.run _ X.stack _ _ ⟨Value.ref (hp.objs.size + 1) :: us, []⟩ _ _ _ _ (rm.make C us []) (J.env0.make C us []) bd all q
  refine wpAny_call (PySem.HandSPX.call_own PySem.F.excBase_ValueError (fun Y => PySem.HandSPX.refsVE_contains Y mr tail) (I.kIn _ _ look) (PySem.W.looks_findIn I.kIn at_) (fun self => PySem.W.bind_fn I.kIn self ty) few (codeAny_mono run fun res t w => ?_))
  match res, w with
  | .error er, w => exact pa pins σ _ _ er t J w
  | .ok (.ret u), w =>
    obtain ⟨v, G, o2, b2, un2, ok2, rv, rfl, q2⟩ := w
    exact ⟨rv, .ref (hp.objs.size + 1), G, J.call' (ch := []) o2 un2 ok2 b2 (fun b z => absurd z (by simp)), rfl, q2⟩
end
/-- C(e): a new error that is kept -/
def tMkV (C : Addr) (sp : Sp) (ta : TA) : TE := fun σ H Q => ta σ H fun vs G => vs.length ≤ 1000 ∧ ∀ a, G a = none → sp (.ref a :: vs) (upd G a (exo a C none)) (fun v G2 => v = .non ∧ Q (.ref a) G2) (fun _ _ _ => False)
theorem pe_mkV {X : Cx} {CX : CXT} {x : Str} {C f : Addr} {k : Nat} {fd : FuncData} {ps : List Str} {sp : Sp} {e : Expr} {es : List Expr} {ta : TA} {p pos : Pos} (T : OexC X.K C) (at_ : PySem.W.findIn X.K (.ref C) "__init__" = some (some (.ref f)))
    (ty : PySem.W.typeIn X.K (.ref f) = some (.type "function")) (F : FnOk X.prog X.w X.K X.mg X.base CX k f fd ps sp) (rm : Room (k + 1) X.A) (bi : Binds X.K fd ps []) (pa : Passes CX X (fun _ _ _ => False)) (g : Gl X x) (m : X.mg x = some (.ref C)) (ha : PA X (e :: es) ta)
    (h0 : (x == ("__debug__" : Str)) = false := by decide) (h1 : starEach (e :: es) X.env = (false, eval e X.env) :: starEach es X.env := by rfl) (h2 : (backTo pos (starEach es X.env)).any (·.1) = false := by rfl) :
    PE X (.Call (.Name x p) (e :: es) [] pos) (tMkV C sp ta) := .mk fun pins s σ H Q I h =>
  wpAny_Call_Name_kw (ld_glob I g m (PySem.W.callWith_K (h₀ := X.base) I.ok.mod.kin T.kC (thn (ha.run pos pins s σ H _ I h) fun us s1 ⟨vs, G, I1, r, q⟩ => ⟨I1.kIn, made_err T at_ ty F rm bi pa I1 r q⟩) h1 h2) h0)

/-- what the making of such an error asks -/
theorem mk_val {K : PySem.W.Frag} {f : Str} {H : Hp} {v : V} {C : Addr} {Q : Addr → Hp → Prop} {E : XK} (T : OexC K C) (no : PySem.W.findIn K (.ref C) f = some none)
    (h : ∀ a d G, Same H G → H a = none → G a = some (exo a C (some d)) → G d = some (exd d [(f, v)]) → Q a G) : [v].length ≤ 1000 ∧ ∀ a, H a = none → spInitF K f (.ref a :: [v]) (upd H a (exo a C none)) (fun u G => u = .non ∧ Q a G) E := by
  refine ⟨by show 1 ≤ 1000; decide, fun a na => ⟨a, C, v, rfl, T, no, upd_same, fun d nd ne => ⟨rfl, h a d _ ?_ na upd_same ?_⟩⟩⟩
  · intro b o e
    have hba : b ≠ a := ne_of_none e na
    have hbd : b ≠ d := by
      rw [upd_ne ne] at nd; exact ne_of_none e nd
    rw [upd_ne hba, upd_ne hbd, upd_ne hba]
    exact e
  · rw [upd_ne ne]; exact upd_same
/-! a family of error classes under one root: none is one of the others -/
def five : List Value := [.type "LookupError", .type "ArithmeticError", .type "RuntimeError", .type "TypeError", .type "AttributeError"]
def errB1 (K : PySem.W.Frag) (C h : Addr) : Bool := insB K C && (xfB K C && (decide (PySem.W.kitOne K (.ref C) (.ref h) = some true) && (decide (PySem.W.kitOne K (.ref C) (.type "ValueError") = some true) && decide (PySem.W.kitAny K (.ref C) five = some false))))
def errsB (K : PySem.W.Frag) (cs : List Addr) (h : Addr) : Bool := (cs.all fun C => errB1 K C h) && (List.range cs.length).all fun i => (List.range cs.length).all fun j => decide (PySem.W.kitOne K (.ref (cs.getD i 0)) (.ref (cs.getD j 0)) = some (decide (i = j)))
structure Errs (K : PySem.W.Frag) (cs : List Addr) (h : Addr) : Prop where
  one : ∀ C ∈ cs, errB1 K C h = true
  two : ∀ i j, i < cs.length → j < cs.length → PySem.W.kitOne K (.ref (cs.getD i 0)) (.ref (cs.getD j 0)) = some (decide (i = j))
theorem errsB_ok {K : PySem.W.Frag} {cs : List Addr} {h : Addr} (e : errsB K cs h = true) : Errs K cs h := by
  obtain ⟨e1, e2⟩ := Bool.and_eq_true_iff.mp e
  exact ⟨List.all_eq_true.mp e1, fun i j hi hj => of_decide_eq_true (List.all_eq_true.mp (List.all_eq_true.mp e2 i (List.mem_range.mpr hi)) j (List.mem_range.mpr hj))⟩
section
variable {K : PySem.W.Frag} {cs : List Addr} {h : Addr} (E : Errs K cs h) {C : Addr} (m : C ∈ cs)
include E m
theorem Errs.val : ErrV K C := by
  obtain ⟨e1, e2⟩ := Bool.and_eq_true_iff.mp (E.one C m)
  exact ⟨insB_ok e1, xfB_ok (Bool.and_eq_true_iff.mp e2).1⟩
theorem Errs.root : PySem.W.kitOne K (.ref C) (.ref h) = some true := of_decide_eq_true (Bool.and_eq_true_iff.mp (Bool.and_eq_true_iff.mp (Bool.and_eq_true_iff.mp (E.one C m)).2).2).1
theorem Errs.isVE : PySem.W.kitOne K (.ref C) (.type "ValueError") = some true := of_decide_eq_true (Bool.and_eq_true_iff.mp (Bool.and_eq_true_iff.mp (Bool.and_eq_true_iff.mp (Bool.and_eq_true_iff.mp (E.one C m)).2).2).2).1
theorem Errs.noOther : PySem.W.kitAny K (.ref C) five = some false := of_decide_eq_true (Bool.and_eq_true_iff.mp (Bool.and_eq_true_iff.mp (Bool.and_eq_true_iff.mp (Bool.and_eq_true_iff.mp (E.one C m)).2).2).2).2
end
/-- the heap behind the raising of such an error -/
def raisedHp (H : Hp) (a dx C : Addr) (fs : List (Str × V)) : Hp := upd (L2.del (upd (upd (upd H a (exo a C none)) dx (exd dx fs)) a (exo a C (some dx))) a) dx (.xd fs)
theorem raised_same {H : Hp} {a dx C : Addr} {fs : List (Str × V)} (na : H a = none) (nd : upd H a (exo a C none) dx = none) (ne : dx ≠ a) : Same H (raisedHp H a dx C fs) := fun b o e => by
  have hba : b ≠ a := ne_of_none e na
  have hbd : b ≠ dx := by
    rw [upd_ne ne] at nd; exact ne_of_none e nd
  unfold raisedHp
  rw [upd_ne hbd, del_ne hba, upd_ne hba, upd_ne hbd, upd_ne hba]
  exact e
end Toy

namespace Toy
open PySem PySem.Spec PyProof.Rows L2
/-! the text by places -/
def top (i : Nat) : Stmt := PySem.Challenge.pw_hintslie_k17_errors_kinds_and_fields.main.body.getD i (.Pass ⟨0, 0, 0, 0⟩)
abbrev s_BadSystemZ_initZ : Stmt := inClass (top 2) 0
theorem sc_BadSystemZ_initZ : FnScope ["self", "part"] ["self", "part"] (defScope s_BadSystemZ_initZ) := ⟨rfl, rfl, rfl, by decide +kernel, rfl, by decide +kernel, by decide +kernel⟩
abbrev s_NoPostZ_initZ : Stmt := inClass (top 3) 0
theorem sc_NoPostZ_initZ : FnScope ["self", "post"] ["self", "post"] (defScope s_NoPostZ_initZ) := ⟨rfl, rfl, rfl, by decide +kernel, rfl, by decide +kernel, by decide +kernel⟩
abbrev s_NoRequestZ_initZ : Stmt := inClass (top 4) 0
theorem sc_NoRequestZ_initZ : FnScope ["self", "name"] ["self", "name"] (defScope s_NoRequestZ_initZ) := ⟨rfl, rfl, rfl, by decide +kernel, rfl, by decide +kernel, by decide +kernel⟩
abbrev s_UnsuitedZ_initZ : Stmt := inClass (top 6) 0
theorem sc_UnsuitedZ_initZ : FnScope ["self", "name"] ["self", "name"] (defScope s_UnsuitedZ_initZ) := ⟨rfl, rfl, rfl, by decide +kernel, rfl, by decide +kernel, by decide +kernel⟩
abbrev s_BadRowZ_initZ : Stmt := inClass (top 7) 0
theorem sc_BadRowZ_initZ : FnScope ["self", "index"] ["self", "index"] (defScope s_BadRowZ_initZ) := ⟨rfl, rfl, rfl, by decide +kernel, rfl, by decide +kernel, by decide +kernel⟩
abbrev s_BadPostZ_initZ : Stmt := inClass (top 12) 0
theorem sc_BadPostZ_initZ : FnScope ["self", "post"] ["self", "post"] (defScope s_BadPostZ_initZ) := ⟨rfl, rfl, rfl, by decide +kernel, rfl, by decide +kernel, by decide +kernel⟩
abbrev s_TooManyZ_initZ : Stmt := inClass (top 13) 0
theorem sc_TooManyZ_initZ : FnScope ["self", "most"] ["self", "most"] (defScope s_TooManyZ_initZ) := ⟨rfl, rfl, rfl, by decide +kernel, rfl, by decide +kernel, by decide +kernel⟩
abbrev s_BadAsksZ_initZ : Stmt := inClass (top 19) 0
theorem sc_BadAsksZ_initZ : FnScope ["self", "index"] ["self", "index"] (defScope s_BadAsksZ_initZ) := ⟨rfl, rfl, rfl, by decide +kernel, rfl, by decide +kernel, by decide +kernel⟩
abbrev s_BadTextZ_initZ : Stmt := inClass (top 22) 0
theorem sc_BadTextZ_initZ : FnScope ["self", "line"] ["self", "line"] (defScope s_BadTextZ_initZ) := ⟨rfl, rfl, rfl, by decide +kernel, rfl, by decide +kernel, by decide +kernel⟩
abbrev s_NoNameZ_initZ : Stmt := inClass (top 24) 0
theorem sc_NoNameZ_initZ : FnScope ["self", "name"] ["self", "name"] (defScope s_NoNameZ_initZ) := ⟨rfl, rfl, rfl, by decide +kernel, rfl, by decide +kernel, by decide +kernel⟩
abbrev s__law_dice : Stmt := top 28
theorem sc__law_dice : FnScope ["script", "cell"] ["script"] (defScope s__law_dice) := ⟨rfl, rfl, rfl, by decide +kernel, rfl, by decide +kernel, by decide +kernel⟩
abbrev s__law_draw : Stmt := top 29
theorem sc__law_draw : FnScope ["dice", "many", "cell", "value", "number"] ["dice", "many"] (defScope s__law_draw) := ⟨rfl, rfl, rfl, by decide +kernel, rfl, by decide +kernel, by decide +kernel⟩
abbrev s__law_word : Stmt := top 30
theorem sc__law_word : FnScope ["dice", "most", "letters", "word", "k"] ["dice", "most"] (defScope s__law_word) := ⟨rfl, rfl, rfl, by decide +kernel, rfl, by decide +kernel, by decide +kernel⟩
abbrev s__law_odd : Stmt := top 32
theorem sc__law_odd : FnScope ["dice", "deep", "k", "menu"] ["dice"] (defScope s__law_odd) := ⟨rfl, rfl, rfl, by decide +kernel, rfl, by decide +kernel, by decide +kernel⟩
abbrev s__law_first : Stmt := top 33
theorem sc__law_first : FnScope ["error"] ["error"] (defScope s__law_first) := ⟨rfl, rfl, rfl, by decide +kernel, rfl, by decide +kernel, by decide +kernel⟩
abbrev s__law_last : Stmt := top 34
theorem sc__law_last : FnScope ["error"] ["error"] (defScope s__law_last) := ⟨rfl, rfl, rfl, by decide +kernel, rfl, by decide +kernel, by decide +kernel⟩
abbrev s__law_alone : Stmt := top 35
theorem sc__law_alone : FnScope ["error", "place", "kinds", "k"] ["error", "place"] (defScope s__law_alone) := ⟨rfl, rfl, rfl, by decide +kernel, rfl, by decide +kernel, by decide +kernel⟩
abbrev s__law_errors : Stmt := top 36
theorem sc__law_errors : FnScope ["thing", "found"] ["thing"] (defScope s__law_errors) := ⟨rfl, rfl, rfl, by decide +kernel, rfl, by decide +kernel, by decide +kernel⟩
abbrev s__law_fields : Stmt := top 37
theorem sc__law_fields : FnScope ["thing", "found"] ["thing"] (defScope s__law_fields) := ⟨rfl, rfl, rfl, by decide +kernel, rfl, by decide +kernel, by decide +kernel⟩
abbrev s__law_caught : Stmt := top 38
theorem sc__law_caught : FnScope ["thing", "kept", "e"] ["thing"] (defScope s__law_caught) := ⟨rfl, rfl, rfl, by decide +kernel, rfl, by decide +kernel, by decide +kernel⟩
abbrev s_law : Stmt := top 39
theorem sc_law : FnScope ["script", "dice", "thing", "errors", "k", "field", "caught"] ["script"] (defScope s_law) := ⟨rfl, rfl, rfl, by decide +kernel, rfl, by decide +kernel, by decide +kernel⟩
structure Top (K : PySem.W.Frag) (mg : Str → Option Value) where
  b_ArithmeticError : mg "ArithmeticError" = none
  b_AttributeError : mg "AttributeError" = none
  b_LookupError : mg "LookupError" = none
  b_RuntimeError : mg "RuntimeError" = none
  b_TypeError : mg "TypeError" = none
  b_ValueError : mg "ValueError" = none
  b_abs : mg "abs" = none
  b_bool : mg "bool" = none
  b_int : mg "int" = none
  b_isinstance : mg "isinstance" = none
  b_len : mg "len" = none
  b_range : mg "range" = none
  d__law_dice : DefAt K mg "_law_dice" s__law_dice ["script"]
  d__law_draw : DefAt K mg "_law_draw" s__law_draw ["dice", "many"]
  d__law_word : DefAt K mg "_law_word" s__law_word ["dice", "most"]
  d__law_odd : DefAt K mg "_law_odd" s__law_odd ["dice"]
  d__law_first : DefAt K mg "_law_first" s__law_first ["error"]
  d__law_last : DefAt K mg "_law_last" s__law_last ["error"]
  d__law_alone : DefAt K mg "_law_alone" s__law_alone ["error", "place"]
  d__law_errors : DefAt K mg "_law_errors" s__law_errors ["thing"]
  d__law_fields : DefAt K mg "_law_fields" s__law_fields ["thing"]
  d__law_caught : DefAt K mg "_law_caught" s__law_caught ["thing"]
  d_law : DefAt K mg "law" s_law ["script"]
  c_HintError : Addr
  mg_HintError : mg "HintError" = some (.ref c_HintError)
  y_HintError : ErrX K c_HintError
  c_BadSystem : Addr
  x_BadSystem : ExcAt K mg "BadSystem" c_BadSystem "part" s_BadSystemZ_initZ
  c_NoPost : Addr
  x_NoPost : ExcAt K mg "NoPost" c_NoPost "post" s_NoPostZ_initZ
  c_NoRequest : Addr
  x_NoRequest : ExcAt K mg "NoRequest" c_NoRequest "name" s_NoRequestZ_initZ
  c_BadMachine : Addr
  mg_BadMachine : mg "BadMachine" = some (.ref c_BadMachine)
  y_BadMachine : ErrX K c_BadMachine
  c_Unsuited : Addr
  x_Unsuited : ExcAt K mg "Unsuited" c_Unsuited "name" s_UnsuitedZ_initZ
  c_BadRow : Addr
  x_BadRow : ExcAt K mg "BadRow" c_BadRow "index" s_BadRowZ_initZ
  c_BadOffsets : Addr
  mg_BadOffsets : mg "BadOffsets" = some (.ref c_BadOffsets)
  y_BadOffsets : ErrX K c_BadOffsets
  c_BadMode : Addr
  mg_BadMode : mg "BadMode" = some (.ref c_BadMode)
  y_BadMode : ErrX K c_BadMode
  c_BadView : Addr
  mg_BadView : mg "BadView" = some (.ref c_BadView)
  y_BadView : ErrX K c_BadView
  c_BadAsk : Addr
  mg_BadAsk : mg "BadAsk" = some (.ref c_BadAsk)
  y_BadAsk : ErrX K c_BadAsk
  c_BadPost : Addr
  x_BadPost : ExcAt K mg "BadPost" c_BadPost "post" s_BadPostZ_initZ
  c_TooMany : Addr
  x_TooMany : ExcAt K mg "TooMany" c_TooMany "most" s_TooManyZ_initZ
  c_BadFraction : Addr
  mg_BadFraction : mg "BadFraction" = some (.ref c_BadFraction)
  y_BadFraction : ErrX K c_BadFraction
  c_NotKept : Addr
  mg_NotKept : mg "NotKept" = some (.ref c_NotKept)
  y_NotKept : ErrX K c_NotKept
  c_BadStyle : Addr
  mg_BadStyle : mg "BadStyle" = some (.ref c_BadStyle)
  y_BadStyle : ErrX K c_BadStyle
  c_NotNow : Addr
  mg_NotNow : mg "NotNow" = some (.ref c_NotNow)
  y_NotNow : ErrX K c_NotNow
  c_BadNumber : Addr
  mg_BadNumber : mg "BadNumber" = some (.ref c_BadNumber)
  y_BadNumber : ErrX K c_BadNumber
  c_BadAsks : Addr
  x_BadAsks : ExcAt K mg "BadAsks" c_BadAsks "index" s_BadAsksZ_initZ
  c_TooLarge : Addr
  mg_TooLarge : mg "TooLarge" = some (.ref c_TooLarge)
  y_TooLarge : ErrX K c_TooLarge
  c_BadPosts : Addr
  mg_BadPosts : mg "BadPosts" = some (.ref c_BadPosts)
  y_BadPosts : ErrX K c_BadPosts
  c_BadText : Addr
  x_BadText : ExcAt K mg "BadText" c_BadText "line" s_BadTextZ_initZ
  c_NoLine : Addr
  mg_NoLine : mg "NoLine" = some (.ref c_NoLine)
  y_NoLine : ErrX K c_NoLine
  c_NoName : Addr
  x_NoName : ExcAt K mg "NoName" c_NoName "name" s_NoNameZ_initZ
  c_NoMatch : Addr
  mg_NoMatch : mg "NoMatch" = some (.ref c_NoMatch)
  y_NoMatch : ErrX K c_NoMatch
  c_NothingDone : Addr
  mg_NothingDone : mg "NothingDone" = some (.ref c_NothingDone)
  y_NothingDone : ErrX K c_NothingDone
  er : Errs K [c_BadSystem, c_NoPost, c_NoRequest, c_BadMachine, c_Unsuited, c_BadRow, c_BadOffsets, c_BadMode, c_BadView, c_BadAsk, c_BadPost, c_TooMany, c_BadFraction, c_NotKept, c_BadStyle, c_NotNow, c_BadNumber, c_BadAsks, c_TooLarge, c_BadPosts, c_BadText, c_NoLine, c_NoName, c_NoMatch, c_NothingDone] c_HintError
  e_NoPost_HintError : PySem.W.exmOne K (.ref c_NoPost) (.ref c_HintError) = some true
end Toy

namespace Toy
open PySem PySem.Spec PyProof.Rows L2
local macro_rules | `(tactic| walk_at "hp") => `(tactic| first
  | assumption
  | exact upd_same
  | (refine Eq.trans (upd_ne (by first | assumption | (apply Ne.symm; assumption))) ?_; walk_at "hp"))
local macro_rules | `(tactic| walk_at "side") => `(tactic| first
  | exact .inl ⟨by omega, by omega⟩
  | exact .inr ⟨by omega, by omega⟩
  | exact ⟨by omega, by omega⟩
  | (show _ ≤ _; omega)
  | (show (_ : Int) < _; omega)
  | decide
  | assumption)
local macro_rules | `(tactic| walk_at "r") => `(tactic| first
  | refine ⟨_, rfl, ?_⟩
  | refine ⟨_, _, rfl, rfl, ?_⟩
  | refine ⟨_, _, _, _, rfl, rfl, SqL.of (by walk_at "hp"), rfl, ?_⟩
  | refine ⟨_, _, _, _, rfl, rfl, SqT.of (by walk_at "hp"), rfl, ?_⟩
  | refine ⟨_, _, _, _, rfl, rfl, (by walk_at "hp"), rfl, ?_⟩
  | refine And.intro rfl ?_
  | refine ⟨_, _, rfl, SqT.of (by walk_at "hp"), ?_⟩
  | refine ⟨_, _, rfl, SqL.of (by walk_at "hp"), ?_⟩
  | refine .inl ⟨_, rfl, ?_⟩
  | refine ⟨_, _, rfl, .inl (SqL.of (by walk_at "hp")), ?_⟩
  | refine ⟨_, _, rfl, .inr (SqT.of (by walk_at "hp")), ?_⟩
  | refine ⟨_, _, rfl, .inl ⟨SqL.of (by walk_at "hp"), ?_⟩⟩
  | refine And.intro (.inl ⟨rfl, _, SqL.of (by walk_at "hp")⟩) ?_
  | refine ⟨_, _, _, rfl, rfl, (by walk_at "hp"), ?_⟩
  | refine ⟨_, _, rfl, (by walk_at "hp"), ?_⟩
  | refine And.intro (by walk_at "side") ?_)
local macro_rules | `(tactic| walk_at "rr") => `(tactic| (repeat walk_at "r"))
local macro_rules | `(tactic| walk_at "k") => `(tactic| first
  | refine ite2 (fun _ => ?_) (fun g => absurd rfl g)
  | refine ite2 (fun g => absurd g (by decide)) (fun _ => ?_)
  | refine ite2 (fun _ => ?_) (fun g => absurd (decide_eq_true (by omega)) g)
  | refine ite2 (fun g => absurd (of_decide_eq_true g) (by omega)) (fun _ => ?_)
  | refine ite2 (fun g => (nd_t g (by omega)).elim) (fun _ => ?_)
  | refine ite2 (fun _ => ?_) (fun g => absurd (nd_f g) (by omega)))
local macro_rules | `(tactic| walk_at "rk") => `(tactic| (repeat (first | walk_at "r" | walk_at "k")))
section
variable {P : Program} {w : World} {K : PySem.W.Frag} {mg : Str → Option Value} {base : Heap}
theorem ok__law_dice (T : Top K mg) : Ok P w K mg base 1 "_law_dice" ["script"] (spDice K) := by
  refine ok_of T.d__law_dice sc__law_dice (fun vs H Q E h => ?_) (fun f cdv A outer s H vs Q E hr h => ?_)
  · obtain ⟨a, ns, rfl, _⟩ := h
    rfl
  · obtain ⟨a, ns, rfl, hS, hlen, k⟩ := h
    refine ⟨_, (pss_one (ps_ret (pe_lst (pa_cons (pe_lc (own := [("cell", 1)]) (g := gName 1) rfl sc__law_dice.nd (pi_list (pe_slice sl_list (pv 0) po_none (po_some pe_int))) (blkOk_by (own := [("cell", 1)]) (N := ["script", "cell"]) (sc := defScope s__law_dice) (by decide +kernel)) (fun _ _ _ _ _ => (pg_name (i := 1) sc__law_dice.nd rfl (Or.inl rfl))) (fun _ _ _ _ _ => pts_nil) (fun _ _ _ _ _ => (pe_callB (id := "abs") call_abs (by rfl) T.b_abs (by decide +kernel) (pa_cons (pe_callTy (T := "int") call_int1 (by rfl) T.b_int (by decide +kernel) (pa_cons (pv 1) pa_nil)) pa_nil)))) (pa_cons pe_int (pa_cons pe_int (pa_cons pe_int (pa_cons pe_int pa_nil)))))))), ?_⟩
    refine ⟨_, rfl, _, rfl, a, _, rfl, hS, fun p hp => ⟨p, rfl, ⟨_, SqL.of upd_same⟩, fun D hD => ?_⟩⟩
    have npD : p ≠ D := ne_of_none upd_same hD
    have nD : H D = none := by rw [upd_ne npD.symm] at hD; exact hD
    obtain ⟨ms, hms⟩ : ∃ ms : List Int, cutV (ns.map V.int) none (some 63) = ms.map V.int := ⟨(ns.drop _).take _, by unfold cutV; rw [List.map_take, List.map_drop]⟩
    have hl63 : ms.length ≤ 63 := by
      have := congrArg List.length hms
      rw [List.length_map] at this
      have h2 := cutV_length (ns.map V.int) none (some 63)
      rw [List.length_map] at h2
      omega
    refine lc_list (K := K) (a := p) (xs := ms.map V.int) (fun i H2 => ∃ cells : List Int, H2 D = some (.lst (cells.map V.int)) ∧ cells.length = i ∧ (∀ x ∈ cells, 0 ≤ x) ∧ H2 p = some (.lst (ms.map V.int)) ∧ Same H H2) ?_ ?_ ?_ ?_
    · refine ⟨[], upd_same, rfl, (by simp), ?_, ?_⟩
      · rw [upd_ne npD, upd_same, hms]
      · exact (same_new hp).trans (same_new hD)
    · rintro i H2 hi ⟨cells, e1, e2, e3, e4, e5⟩
      exact SqL.of e4
    · rintro i x H2 hi ⟨cells, e1, e2, e3, e4, e5⟩
      obtain ⟨z, rfl, hz⟩ : ∃ z, x = V.int z ∧ i < ms.length := by
        rw [List.getElem?_map] at hi
        cases e : ms[i]? with
        | none => rw [e] at hi; cases hi
        | some z => rw [e] at hi; exact ⟨z, (Option.some.inj hi).symm, (List.getElem?_eq_some_iff.mp e).1⟩
      refine ⟨rfl, ?_⟩
      refine yesT ?_
      refine ⟨_, rfl, .inl ⟨_, rfl, _, rfl, _, e1, ?_, cells ++ [if z < 0 then -z else z], ?_, ?_, ?_, ?_, ?_⟩⟩
      · rw [List.length_map, e2]; exact small1000 (by omega)
      · rw [upd_same, List.map_append]; rfl
      · rw [List.length_append, e2]; rfl
      · intro x hx
        rcases List.mem_append.mp hx with q | q
        · exact e3 x q
        · rw [List.mem_singleton.mp q]; split <;> omega
      · rw [upd_ne npD]; exact e4
      · intro b o hb
        rw [upd_ne (ne_of_none hb nD)]
        exact e5 b o hb
    · rintro H2 ⟨cells, e1, e2, e3, e4, e5⟩
      refine ⟨(by show 5 ≤ sizeLine; decide), fun d hd => k d D _ (e5.trans (same_new hd)) (e5.free hd) nD ⟨⟨cells, 0, 0, 1, 0, upd_same, ?_, e3, by omega, by omega, by omega, by omega, by omega⟩⟩⟩
      rw [upd_ne (ne_of_none e1 hd)]
      exact e1
theorem ok__law_draw (T : Top K mg) : Ok P w K mg base 1 "_law_draw" ["dice", "many"] spDraw := by
  refine ok_of T.d__law_draw sc__law_draw (fun vs H Q E h => ?_) (fun f cdv A outer s H vs Q E hr h => ?_)
  · obtain ⟨d, c, n, rfl, _⟩ := h
    rfl
  · obtain ⟨d, c, n, rfl, D, hn, hn2, k⟩ := h
    refine ⟨_, (C8.pss_cut (ps_if (PW.pt (pw_and (pt_cmpR op_eq (pe_ix ix_list (pv 0) pe_int (fun _ _ => rfl)) pe_int (nomark _)) (pw_and1 (pt_cmpR op_lt (pe_ix ix_list (pv 0) pe_int (fun _ _ => rfl)) (pe_callB (id := "len") call_len_seq (by rfl) T.b_len (by decide +kernel) (pa_cons (pe_ix ix_list (pv 0) pe_int (fun _ _ => rfl)) pa_nil)) (nomark _)))))
      (pss_cons (ps_set (i := 2) sc__law_draw.nd rfl (Or.inl rfl) (pe_ix ix_list (pe_ix ix_list (pv 0) pe_int (fun _ _ => rfl)) (pe_ix ix_list (pv 0) pe_int (fun _ _ => rfl)) (fun _ _ => rfl)))
      (pss_cons (ps_asg (pe_op op_add (pe_ix ix_list (pv 0) pe_int (fun _ _ => rfl)) pe_int) (pg_sub (pv 0) pe_int set_list))
      (pss_one (ps_if (pt_cmpR op_ge (pv 2) (pe_op op_pow pe_int pe_int) (nomark _))
      (pss_one (ps_asg (pv 2) (pg_sub (pv 0) pe_int set_list)))
      (pss_one (ps_asg (pe_op op_mod (pe_callTy (T := "int") call_int1 (by rfl) T.b_int (by decide +kernel) (pa_cons (pe_op op_add (pe_op op_add (pe_op op_mul (pe_ix ix_list (pv 0) pe_int (fun _ _ => rfl)) pe_int) (pe_op op_mul (pv 2) pe_int)) (pe_ix ix_list (pv 0) pe_int (fun _ _ => rfl))) pa_nil)) pe_int) (pg_sub (pv 0) pe_int set_list)))))))
      pss_nil)
      (C8.pss_cut (ps_if (pt_cmpR op_gt (pe_ix ix_list (pv 0) pe_int (fun _ _ => rfl)) pe_int (nomark _))
      (pss_cons (ps_set (i := 3) sc__law_draw.nd rfl (Or.inl rfl) (pe_op op_mod (pe_callTy (T := "int") call_int1 (by rfl) T.b_int (by decide +kernel) (pa_cons (pe_ix ix_list (pv 0) pe_int (fun _ _ => rfl)) pa_nil)) (pv 1)))
      (pss_cons (ps_asg (pe_op op_fdivW (pe_ix ix_list (pv 0) pe_int (fun _ _ => rfl)) (pv 1)) (pg_sub (pv 0) pe_int set_list))
      (pss_one (ps_ret (pv 3)))))
      pss_nil)
      (pss_cons (ps_asg (pe_op op_add (pe_ix ix_list (pv 0) pe_int (fun _ _ => rfl)) pe_int) (pg_sub (pv 0) pe_int set_list))
      (pss_cons (ps_asg (pe_op op_mod (pe_callTy (T := "int") call_int1 (by rfl) T.b_int (by decide +kernel) (pa_cons (pe_op op_add (pe_op op_add (pe_op op_mul (pe_ix ix_list (pv 0) pe_int (fun _ _ => rfl)) pe_int) (pe_op op_mul (pe_ix ix_list (pv 0) pe_int (fun _ _ => rfl)) pe_int)) pe_int) pa_nil)) pe_int) (pg_sub (pv 0) pe_int set_list))
      (pss_cons (ps_set (i := 4) sc__law_draw.nd rfl (Or.inl rfl) (pe_op op_mod (pe_callTy (T := "int") call_int1 (by rfl) T.b_int (by decide +kernel) (pa_cons (pe_op op_mul (pe_ix ix_list (pv 0) pe_int (fun _ _ => rfl)) (pe_op op_add (pe_op op_fdiv (pe_ix ix_list (pv 0) pe_int (fun _ _ => rfl)) pe_int) pe_int)) pa_nil)) pe_int))
      (pss_cons (ps_set (i := 4) sc__law_draw.nd rfl (Or.inl rfl) (pe_op op_mod (pe_callTy (T := "int") call_int1 (by rfl) T.b_int (by decide +kernel) (pa_cons (pe_op op_mul (pv 4) (pe_op op_add (pe_op op_fdiv (pv 4) pe_int) pe_int)) pa_nil)) pe_int))
      (pss_one (ps_ret (pe_op op_mod (pe_callTy (T := "int") call_int1 (by rfl) T.b_int (by decide +kernel) (pa_cons (pe_op op_fdiv (pv 4) pe_int) pa_nil)) (pv 1)))))))))), ?_⟩
    refine ⟨fun σ' H' => ∃ o, σ' = [some (.ref d), some (.int n), o, none, none] ∧ Keep d H H' ∧ Dice c H' d, ?_, ?_⟩
    · obtain ⟨cells, i, b, s', t, hd, hc, h0, h1, h2, h3, h4, h5⟩ := D.ex
      have ncd : c ≠ d := by
        intro z; subst z; rw [hd] at hc; injection hc with hc; injection hc with hc; cases cells <;> simp at hc
      walk_at "rr"
      refine ite2 (fun g => ?_) (fun g => ?_)
      · walk_at "rr"
        refine ite2 (fun g2 => ?_) (fun g2 => ?_)
        · have g2 := of_decide_eq_true g2
          rw [List.length_map] at g2
          obtain ⟨z, hz⟩ : ∃ z, cells[i.toNat]? = some z := ⟨_, List.getElem?_eq_getElem (by omega)⟩
          have hz0 := h0 z (List.mem_of_getElem? hz)
          have hat : atI (cells.map V.int) i = some (.int z) := by
            have := atI_nat (xs := cells.map V.int) (j := i.toNat) (v := .int z) (by rw [List.getElem?_map, hz]; rfl)
            rw [Int.toNat_of_nonneg h1] at this
            exact this
          refine ⟨_, rfl, _, _, _, _, rfl, rfl, SqL.of hd, rfl, _, rfl, d, _, _, _, rfl, rfl, SqL.of hd, rfl, c, _, i, .int z, rfl, rfl, SqL.of hc, hat, ?_⟩
          walk_at "rr"
          refine ite2 (fun g3 => ?_) (fun g3 => ?_)
          · walk_at "rr"
            rw [upd_upd]
            exact ⟨Keep.upd, ⟨cells, i + 1, z, s', t, upd_same, (upd_ne ncd).trans hc, h0, by omega, hz0, h3, h4, h5⟩⟩
          · walk_at "rr"
            rw [upd_upd]
            exact ⟨Keep.upd, ⟨cells, i + 1, b, (s' * 69621 + z * 40692 + (i + 1)) % 2147483647, t, upd_same, (upd_ne ncd).trans hc, h0, by omega, h2, by omega, by omega, h5⟩⟩
        · exact ⟨none, rfl, Keep.refl _ _, D⟩
      · exact ⟨none, rfl, Keep.refl _ _, D⟩
    · rintro σ' H1 ⟨o, rfl, kp, D1⟩
      obtain ⟨cells, i, b, s', t, hd, hc, h0, h1, h2, h3, h4, h5⟩ := D1.ex
      have ncd : c ≠ d := by
        intro z; subst z; rw [hd] at hc; injection hc with hc; injection hc with hc; cases cells <;> simp at hc
      refine ⟨fun σ' H' => σ' = [some (.ref d), some (.int n), o, none, none] ∧ H' = H1, ?_, ?_⟩
      · walk_at "rr"
        refine ite2 (fun g => ?_) (fun g => ?_)
        · have g := of_decide_eq_true g
          walk_at "rr"
          refine ⟨wide_div hn hn2 (by decide) (by decide), ?_⟩
          walk_at "rr"
          exact k _ _ (Int.emod_nonneg _ (by omega)) (Int.emod_lt_of_pos _ hn) (kp.trans Keep.upd) ⟨cells, i, b / n, s', t, upd_same, (upd_ne ncd).trans hc, h0, h1, Int.ediv_nonneg h2 (by omega), h3, h4, h5⟩
        · exact ⟨rfl, rfl⟩
      · rintro _ _ ⟨rfl, rfl⟩
        walk_at "rr"
        rw [upd_upd]
        exact k _ _ (Int.emod_nonneg _ (by omega)) (Int.emod_lt_of_pos _ hn) (kp.trans Keep.upd) ⟨cells, i, b, (s' * 48271 + (t + 1) * 7919 + 1) % 2147483647, t + 1, upd_same, (upd_ne ncd).trans hc, h0, h1, h2, by omega, by omega, by omega⟩
end
end Toy

namespace Toy
open PySem PySem.Spec PyProof.Rows L2
local macro_rules | `(tactic| walk_at "hp") => `(tactic| first
  | assumption
  | exact upd_same
  | (refine Eq.trans (upd_ne (by first | assumption | (apply Ne.symm; assumption))) ?_; walk_at "hp"))
local macro_rules | `(tactic| walk_at "side") => `(tactic| first
  | exact .inl ⟨by omega, by omega⟩
  | exact .inr ⟨by omega, by omega⟩
  | exact ⟨by omega, by omega⟩
  | (show _ ≤ _; omega)
  | (show (_ : Int) < _; omega)
  | decide
  | assumption)
local macro_rules | `(tactic| walk_at "r") => `(tactic| first
  | refine ⟨_, rfl, ?_⟩
  | refine ⟨_, _, rfl, rfl, ?_⟩
  | refine ⟨_, _, _, _, rfl, rfl, SqL.of (by walk_at "hp"), rfl, ?_⟩
  | refine ⟨_, _, _, _, rfl, rfl, SqT.of (by walk_at "hp"), rfl, ?_⟩
  | refine ⟨_, _, _, _, rfl, rfl, (by walk_at "hp"), rfl, ?_⟩
  | refine And.intro rfl ?_
  | refine ⟨_, _, rfl, SqT.of (by walk_at "hp"), ?_⟩
  | refine ⟨_, _, rfl, SqL.of (by walk_at "hp"), ?_⟩
  | refine .inl ⟨_, rfl, ?_⟩
  | refine ⟨_, _, rfl, .inl (SqL.of (by walk_at "hp")), ?_⟩
  | refine ⟨_, _, rfl, .inr (SqT.of (by walk_at "hp")), ?_⟩
  | refine ⟨_, _, rfl, .inl ⟨SqL.of (by walk_at "hp"), ?_⟩⟩
  | refine And.intro (.inl ⟨rfl, _, SqL.of (by walk_at "hp")⟩) ?_
  | refine ⟨_, _, _, rfl, rfl, (by walk_at "hp"), ?_⟩
  | refine ⟨_, _, rfl, (by walk_at "hp"), ?_⟩
  | refine And.intro (by walk_at "side") ?_)
local macro_rules | `(tactic| walk_at "rr") => `(tactic| (repeat walk_at "r"))
local macro_rules | `(tactic| walk_at "k") => `(tactic| first
  | refine ite2 (fun _ => ?_) (fun g => absurd rfl g)
  | refine ite2 (fun g => absurd g (by decide)) (fun _ => ?_)
  | refine ite2 (fun _ => ?_) (fun g => absurd (decide_eq_true (by omega)) g)
  | refine ite2 (fun g => absurd (of_decide_eq_true g) (by omega)) (fun _ => ?_)
  | refine ite2 (fun g => (nd_t g (by omega)).elim) (fun _ => ?_)
  | refine ite2 (fun _ => ?_) (fun g => absurd (nd_f g) (by omega)))
local macro_rules | `(tactic| walk_at "rk") => `(tactic| (repeat (first | walk_at "r" | walk_at "k")))
section
variable {P : Program} {w : World} {K : PySem.W.Frag} {mg : Str → Option Value} {base : Heap}
theorem ok__law_word (T : Top K mg) : Ok P w K mg base 2 "_law_word" ["dice", "most"] spWord := by
  refine ok_of T.d__law_word sc__law_word (fun vs H Q E h => ?_) (fun f cdv A outer s H vs Q E hr h => ?_)
  · obtain ⟨d, c, n, rfl, _⟩ := h
    rfl
  · obtain ⟨d, c, n, rfl, D, hn, hn2, k⟩ := h
    obtain ⟨f__law_draw, fd__law_draw, m__law_draw, k__law_draw, b__law_draw, G__law_draw⟩ := ok__law_draw (P := P) (w := w) (base := base) T
    have hr__law_draw : Room 1 _ := hr.mono (by decide)
    refine ⟨_, (pss_cons (ps_set (i := 2) sc__law_word.nd rfl (Or.inl rfl) pe_str)
      (pss_cons (ps_set (i := 3) sc__law_word.nd rfl (Or.inl rfl) pe_str)
      (pss_cons (ps_for PassesOwn.never rfl (pi_range1 (by rfl) T.b_range (pa_cons (pe_op op_add pe_int (pe_call G__law_draw hr__law_draw rfl m__law_draw k__law_draw b__law_draw .nil pass0 (pa_cons (pv 0) (pa_cons (pv 1) pa_nil)))) pa_nil)) (pg_name (i := 4) sc__law_word.nd rfl (Or.inl rfl))
      (pss_one (ps_set (i := 3) sc__law_word.nd rfl (Or.inl rfl) (pe_op op_add_str (pv 3) (pe_item_str (pv 2) (pe_call G__law_draw hr__law_draw rfl m__law_draw k__law_draw b__law_draw .nil pass0 (pa_cons (pv 0) (pa_cons pe_int pa_nil))) (fun _ _ => rfl))))))
      (pss_one (ps_ret (pv 3)))))), ?_⟩
    walk_at "rr"
    refine ⟨_, _, _, rfl, D, hn, by omega, fun v H1 v0 v1 k1 D1 => ?_⟩
    walk_at "rr"
    refine for_range (lo := 0) (n := (1 + v).toNat) (fun i σ' H2 => ∃ (z : Str) (o : Option V), σ' = [some (.ref d), some (.int n), some (.str abc), some (.str z), o] ∧ Keep d H H2 ∧ Dice c H2 d ∧ z.length = i ∧ Low z)
      ⟨_, none, rfl, k1, D1, (by decide +kernel), ⟨by decide +kernel⟩⟩ ?_ ?_
    · rintro i σ' H2 hi ⟨z, o, rfl, k2, D2, hz, hl⟩
      walk_at "rr"
      refine ⟨_, _, _, rfl, D2, by decide, by decide, fun u H3 u0 u1 k3 D3 => ?_⟩
      obtain ⟨ch, hc, c1, c2⟩ := abc_at u.toNat (by omega)
      refine ⟨_, _, ch, rfl, rfl, by omega, by omega, by rw [abc_len]; omega, hc, ?_⟩
      refine ⟨_, _, rfl, rfl, Nat.le_of_lt (small1000 (by rw [hz]; show i + 1 ≤ 1000; omega)), ?_⟩
      exact ⟨_, _, rfl, k2.trans k3, D3, by rw [len_app, hz], hl.app c1 c2⟩
    · rintro σ' H2 ⟨z, o, rfl, k2, D2, hz, hl⟩
      walk_at "rr"
      exact k _ _ ⟨by omega, by omega, hl⟩ k2 D2
end
end Toy

namespace Toy
open PySem PySem.Spec PyProof.Rows L2
local macro_rules | `(tactic| walk_at "hp") => `(tactic| first
  | assumption
  | exact upd_same
  | (refine Eq.trans (upd_ne (by first | assumption | (apply Ne.symm; assumption))) ?_; walk_at "hp"))
local macro_rules | `(tactic| walk_at "side") => `(tactic| first
  | exact .inl ⟨by omega, by omega⟩
  | exact .inr ⟨by omega, by omega⟩
  | exact ⟨by omega, by omega⟩
  | (show _ ≤ _; omega)
  | (show (_ : Int) < _; omega)
  | decide
  | assumption)
local macro_rules | `(tactic| walk_at "r") => `(tactic| first
  | refine ⟨_, rfl, ?_⟩
  | refine ⟨_, _, rfl, rfl, ?_⟩
  | refine ⟨_, _, _, _, rfl, rfl, SqL.of (by walk_at "hp"), rfl, ?_⟩
  | refine ⟨_, _, _, _, rfl, rfl, SqT.of (by walk_at "hp"), rfl, ?_⟩
  | refine ⟨_, _, _, _, rfl, rfl, (by walk_at "hp"), rfl, ?_⟩
  | refine And.intro rfl ?_
  | refine ⟨_, _, rfl, SqT.of (by walk_at "hp"), ?_⟩
  | refine ⟨_, _, rfl, SqL.of (by walk_at "hp"), ?_⟩
  | refine .inl ⟨_, rfl, ?_⟩
  | refine ⟨_, _, rfl, .inl (SqL.of (by walk_at "hp")), ?_⟩
  | refine ⟨_, _, rfl, .inr (SqT.of (by walk_at "hp")), ?_⟩
  | refine ⟨_, _, rfl, .inl ⟨SqL.of (by walk_at "hp"), ?_⟩⟩
  | refine And.intro (.inl ⟨rfl, _, SqL.of (by walk_at "hp")⟩) ?_
  | refine ⟨_, _, _, rfl, rfl, (by walk_at "hp"), ?_⟩
  | refine ⟨_, _, rfl, (by walk_at "hp"), ?_⟩
  | refine And.intro (by walk_at "side") ?_)
local macro_rules | `(tactic| walk_at "rr") => `(tactic| (repeat walk_at "r"))
local macro_rules | `(tactic| walk_at "k") => `(tactic| first
  | refine ite2 (fun _ => ?_) (fun g => absurd rfl g)
  | refine ite2 (fun g => absurd g (by decide)) (fun _ => ?_)
  | refine ite2 (fun _ => ?_) (fun g => absurd (decide_eq_true (by omega)) g)
  | refine ite2 (fun g => absurd (of_decide_eq_true g) (by omega)) (fun _ => ?_)
  | refine ite2 (fun g => (nd_t g (by omega)).elim) (fun _ => ?_)
  | refine ite2 (fun _ => ?_) (fun g => absurd (nd_f g) (by omega)))
local macro_rules | `(tactic| walk_at "rk") => `(tactic| (repeat (first | walk_at "r" | walk_at "k")))
def spOddV : Sp := fun vs H Q _ => ∃ (d c : Addr), vs = [.ref d] ∧ Dice c H d ∧ ∀ v H', OddV (fun a => H a = none) H' v → Keep d H H' → Dice c H' d → Q v H'
theorem same_none {H H' : Hp} {a : Addr} (k : Same H H') (h : H' a = none) : H a = none := by
  cases e : H a with
  | none => rfl
  | some o => rw [k _ _ e] at h; cases h
section
variable {P : Program} {w : World} {K : PySem.W.Frag} {mg : Str → Option Value} {base : Heap}
theorem ok__law_odd (T : Top K mg) : Ok P w K mg base 2 "_law_odd" ["dice"] spOddV := by
  refine ok_of T.d__law_odd sc__law_odd (fun vs H Q E h => ?_) (fun f cdv A outer s H vs Q E hr h => ?_)
  · obtain ⟨d, c, rfl, _⟩ := h
    rfl
  · obtain ⟨d, c, rfl, D, k⟩ := h
    obtain ⟨f__law_draw, fd__law_draw, m__law_draw, k__law_draw, b__law_draw, G__law_draw⟩ := ok__law_draw (P := P) (w := w) (base := base) T
    have hr__law_draw : Room 1 _ := hr.mono (by decide)
    have hu := hu_of hr
    refine ⟨_, (pss_cons (ps_set (i := 1) sc__law_odd.nd rfl (Or.inl rfl) (pe_lst (pa_cons pe_int pa_nil)))
      (pss_cons (ps_for PassesOwn.never rfl (pi_range1 (by rfl) T.b_range (pa_cons pe_int pa_nil)) (pg_name (i := 2) sc__law_odd.nd rfl (Or.inl rfl))
      (pss_one (ps_set (i := 1) sc__law_odd.nd rfl (Or.inl rfl) (pe_lst (pa_cons (pv 1) pa_nil)))))
      (pss_cons (ps_set (i := 3) sc__law_odd.nd rfl (Or.inl rfl) (pe_lst (pa_cons pe_non (pa_cons pe_bl (pa_cons pe_bl (pa_cons pe_str (pa_cons pe_str (pa_cons pe_str (pa_cons (pe_lst pa_nil) (pa_cons (pe_tup pa_nil) (pa_cons pe_dnewK (pa_cons (pe_lst (pa_cons pe_int pa_nil)) (pa_cons (pe_tup (pa_cons pe_int pa_nil)) (pa_cons (pe_disp (pps_cons pe_str pe_int pps_nil) (by rfl) (by rfl) (fun z => by cases z) (by decide)) (pa_cons (pe_un un_neg pe_int) (pa_cons (pe_op op_pow pe_int pe_int) (pa_cons (pv 1) (pa_cons (pe_tup (pa_cons pe_non (pa_cons pe_str pa_nil))) pa_nil))))))))))))))))))
      (pss_one (ps_ret (pe_ix ix_list (pv 3) (pe_call G__law_draw hr__law_draw rfl m__law_draw k__law_draw b__law_draw .nil pass0 (pa_cons (pv 0) (pa_cons (pe_callB (id := "len") call_len_seq (by rfl) T.b_len (by decide +kernel) (pa_cons (pv 3) pa_nil)) pa_nil))) (fun _ _ => rfl))))))), ?_⟩
    refine ⟨(by show 1 ≤ sizeLine; decide), fun l0 nl0 => ?_⟩
    refine ⟨_, rfl, by decide, by decide, ?_⟩
    refine for_range (lo := 0) (n := 24) (fun i σ' H1 => ∃ (p : Addr) (o : Option V), σ' = [some (.ref d), some (.ref p), o, none] ∧ (∃ dt, DatP (fun a => H a = none) H1 (.ref p) dt ∧ PyData.canLay0 dt = true ∧ PyData.depth dt ≤ i + 1) ∧ Same H H1) ⟨l0, none, rfl, ⟨.list [.int 0], datP_one nl0 upd_same (.int 0), rfl, by decide⟩, same_new nl0⟩ ?_ ?_
    · rintro i σ' H1 hi ⟨p, o, rfl, ⟨dt, hp, hp2, hp3⟩, s1⟩
      refine ⟨_, rfl, (by show 1 ≤ sizeLine; decide), fun l1 nl1 => ?_⟩
      exact ⟨l1, _, rfl, ⟨.list [dt], datP_one (same_none s1 nl1) upd_same (hp.same (same_new nl1)), by simp [PyData.canLay0, PyData.canLayAll0, hp2], by simp [PyData.depth, PyData.depthAll]; omega⟩, s1.trans (same_new nl1)⟩
    · rintro σ' H1 ⟨p, o, rfl, ⟨dt, hp, hp2, hp3⟩, s1⟩
      refine ⟨(by show 0 ≤ sizeLine; decide), fun a1 n1 => ?_⟩
      have e1 : (upd H1 a1 (.lst [])) a1 = some (.lst []) := upd_same
      have t1 : Same H1 (upd H1 a1 (.lst [])) := same_new n1
      generalize upd H1 a1 (.lst []) = H2 at *
      refine ⟨(by show 0 ≤ sizeLine; decide), fun a2 n2 => ?_⟩
      have e2 : (upd H2 a2 (.tup [])) a2 = some (.tup []) := upd_same
      have t2 : Same H2 (upd H2 a2 (.tup [])) := same_new n2
      generalize upd H2 a2 (.tup []) = H3 at *
      intro a3 n3
      have e3 : (upd H3 a3 (.dK [])) a3 = some (.dK []) := upd_same
      have t3 : Same H3 (upd H3 a3 (.dK [])) := same_new n3
      generalize upd H3 a3 (.dK []) = H4 at *
      refine ⟨(by show 1 ≤ sizeLine; decide), fun a4 n4 => ?_⟩
      have e4 : (upd H4 a4 (.lst [.int 0])) a4 = some (.lst [.int 0]) := upd_same
      have t4 : Same H4 (upd H4 a4 (.lst [.int 0])) := same_new n4
      generalize upd H4 a4 (.lst [.int 0]) = H5 at *
      refine ⟨(by show 1 ≤ sizeLine; decide), fun a5 n5 => ?_⟩
      have e5 : (upd H5 a5 (.tup [.int 0])) a5 = some (.tup [.int 0]) := upd_same
      have t5 : Same H5 (upd H5 a5 (.tup [.int 0])) := same_new n5
      generalize upd H5 a5 (.tup [.int 0]) = H6 at *
      intro a6 n6
      refine ⟨upd_same, [(Sum.inr "a", .int 0)], rfl, (by show 1 ≤ 15; decide), ?_⟩
      rw [upd_upd]
      have t6 : Same H6 (upd H6 a6 (.dK (mergeK [] [(Sum.inr "a", .int 0)]))) := same_new n6
      have e6 : (upd H6 a6 (.dK (mergeK [] [(Sum.inr "a", .int 0)]))) a6 = some (.dK [(Sum.inr "a", .int 0)]) := upd_same
      generalize upd H6 a6 (.dK (mergeK [] [(Sum.inr "a", .int 0)])) = H7 at *
      walk_at "rr"
      intro a7 n7
      have e7 : (upd H7 a7 (.tup [.non, .str "a"])) a7 = some (.tup [.non, .str "a"]) := upd_same
      have t7 : Same H7 (upd H7 a7 (.tup [.non, .str "a"])) := same_new n7
      generalize upd H7 a7 (.tup [.non, .str "a"]) = H8 at *
      refine ⟨(by show 16 ≤ sizeLine; decide), fun m nm => ?_⟩
      let xs : List V := [.non, .bl true, .bl false, .str "", .str "a", .str "Ab", .ref a1, .ref a2, .ref a3, .ref a4, .ref a5, .ref a6, .int (-1), .int (10 ^ 29), .ref p, .ref a7]
      have em : (upd H8 m (.lst xs)) m = some (.lst xs) := upd_same
      have tm : Same H8 (upd H8 m (.lst xs)) := same_new nm
      obtain ⟨H9, hH9⟩ : ∃ H9, H9 = upd H8 m (.lst xs) := ⟨_, rfl⟩
      rw [← hH9] at em tm
      have s8 := t7.trans tm
      have s7 := t6.trans s8
      have s6 := t5.trans s7
      have s5 := t4.trans s6
      have s4 := t3.trans s5
      have s3 := t2.trans s4
      have s2 := t1.trans s3
      have hN : ∀ {a : Addr} {H' : Hp}, Same H1 H' → H' a = none → H a = none := fun k h => same_none (s1.trans k) h
      have q2 := t1
      have q3 := q2.trans t2
      have q4 := q3.trans t3
      have q5 := q4.trans t4
      have q6 := q5.trans t5
      have q7 := q6.trans t6
      have dat : ∀ x ∈ xs, OddV (fun a => H a = none) H9 x := by
        intro x hx
        simp only [xs, List.mem_cons, List.not_mem_nil, or_false] at hx
        rcases hx with rfl | rfl | rfl | rfl | rfl | rfl | rfl | rfl | rfl | rfl | rfl | rfl | rfl | rfl | rfl | rfl
        · exact .inl ⟨_, .non, by decide +kernel⟩
        · exact .inl ⟨_, .bl _, by decide +kernel⟩
        · exact .inl ⟨_, .bl _, by decide +kernel⟩
        · exact .inl ⟨_, .str _, by decide +kernel⟩
        · exact .inl ⟨_, .str _, by decide +kernel⟩
        · exact .inl ⟨_, .str _, by decide +kernel⟩
        · exact .inl ⟨.list [], .lst _ _ _ (hN (Same.refl _) n1) (s3 _ _ e1) rfl (by intro i x d h; simp at h), by decide +kernel⟩
        · exact .inl ⟨.tuple [], .tup _ _ _ (hN q2 n2) (s4 _ _ e2) rfl (by intro i x d h; simp at h), by decide +kernel⟩
        · exact .inr ⟨_, _, rfl, hN q3 n3, s5 _ _ e3, by simp, by intro x hx; cases hx⟩
        · exact .inl ⟨_, datP_one (hN q4 n4) (s6 _ _ e4) (.int _), by decide +kernel⟩
        · exact .inl ⟨_, datP_oneT (hN q5 n5) (s7 _ _ e5) (.int _), by decide +kernel⟩
        · exact .inr ⟨_, _, rfl, hN q6 n6, s8 _ _ e6, by simp, by intro x hx; rw [List.mem_singleton.mp hx]; exact ⟨rfl, .int _⟩⟩
        · exact .inl ⟨_, .int _, by decide +kernel⟩
        · exact .inl ⟨_, .int _, by decide +kernel⟩
        · refine .inl ⟨dt, hp.same s2, ?_⟩
          show (PyData.canLay0 dt && decide (PyData.depth dt ≤ 64)) = true
          rw [hp2, decide_eq_true (show PyData.depth dt ≤ 64 by omega)]; rfl
        · refine .inl ⟨.tuple [.none, .str "a"], .tup _ _ _ (hN q7 n7) (tm _ _ e7) rfl ?_, by decide +kernel⟩
          intro i x d h1 h2
          match i with
          | 0 => cases h1; cases h2; exact .non
          | 1 => cases h1; cases h2; exact .str _
          | i + 2 => simp at h1
      have D9 : Dice c H9 d := D.same (s1.trans s2)
      have k9 : Keep d H H9 := same_keep (s1.trans s2)
      have hl : xs.length = 16 := rfl
      subst hH9
      refine ⟨_, rfl, _, rfl, _, rfl, m, xs, rfl, .inl (SqL.of em), d, c, _, rfl, D9, by omega, by omega, fun v H10 v0 v1 k10 D10 => ?_⟩
      have nmd : m ≠ d := by
        intro z; subst z
        obtain ⟨o', e⟩ := D.some
        rw [hN (q7.trans t7) nm] at e
        cases e
      have em' := k10 _ _ nmd em
      obtain ⟨x, hx⟩ : ∃ x, xs[v.toNat]? = some x := ⟨_, List.getElem?_eq_getElem (by omega)⟩
      refine ⟨m, xs, v, x, rfl, rfl, SqL.of em', ?_, ?_⟩
      · have := atI_nat (xs := xs) hx
        rwa [Int.toNat_of_nonneg v0] at this
      · refine k x H10 ((dat x (List.mem_of_getElem? hx)).mono (fun a o na ea => k10 a o (fun z => ?_) ea) fun a h _ => h) (k9.trans k10) D10
        subst z
        obtain ⟨o', e⟩ := D.some
        rw [e] at na; cases na
end
end Toy

namespace Toy
open PySem PySem.Spec PyProof.Rows L2
local macro_rules | `(tactic| walk_at "hp") => `(tactic| first
  | assumption
  | exact upd_same
  | (refine Eq.trans (upd_ne (by first | assumption | (apply Ne.symm; assumption))) ?_; walk_at "hp"))
local macro_rules | `(tactic| walk_at "side") => `(tactic| first
  | exact .inl ⟨by omega, by omega⟩
  | exact .inr ⟨by omega, by omega⟩
  | exact ⟨by omega, by omega⟩
  | (show _ ≤ _; omega)
  | (show (_ : Int) < _; omega)
  | decide
  | assumption)
local macro_rules | `(tactic| walk_at "r") => `(tactic| first
  | refine ⟨_, rfl, ?_⟩
  | refine ⟨_, _, rfl, rfl, ?_⟩
  | refine ⟨_, _, _, _, rfl, rfl, SqL.of (by walk_at "hp"), rfl, ?_⟩
  | refine ⟨_, _, _, _, rfl, rfl, SqT.of (by walk_at "hp"), rfl, ?_⟩
  | refine ⟨_, _, _, _, rfl, rfl, (by walk_at "hp"), rfl, ?_⟩
  | refine And.intro rfl ?_
  | refine ⟨_, _, rfl, SqT.of (by walk_at "hp"), ?_⟩
  | refine ⟨_, _, rfl, SqL.of (by walk_at "hp"), ?_⟩
  | refine .inl ⟨_, rfl, ?_⟩
  | refine ⟨_, _, rfl, .inl (SqL.of (by walk_at "hp")), ?_⟩
  | refine ⟨_, _, rfl, .inr (SqT.of (by walk_at "hp")), ?_⟩
  | refine ⟨_, _, rfl, .inl ⟨SqL.of (by walk_at "hp"), ?_⟩⟩
  | refine And.intro (.inl ⟨rfl, _, SqL.of (by walk_at "hp")⟩) ?_
  | refine ⟨_, _, _, rfl, rfl, (by walk_at "hp"), ?_⟩
  | refine ⟨_, _, rfl, (by walk_at "hp"), ?_⟩
  | refine And.intro (by walk_at "side") ?_)
local macro_rules | `(tactic| walk_at "rr") => `(tactic| (repeat walk_at "r"))
local macro_rules | `(tactic| walk_at "k") => `(tactic| first
  | refine ite2 (fun _ => ?_) (fun g => absurd rfl g)
  | refine ite2 (fun g => absurd g (by decide)) (fun _ => ?_)
  | refine ite2 (fun _ => ?_) (fun g => absurd (decide_eq_true (by omega)) g)
  | refine ite2 (fun g => absurd (of_decide_eq_true g) (by omega)) (fun _ => ?_)
  | refine ite2 (fun g => (nd_t g (by omega)).elim) (fun _ => ?_)
  | refine ite2 (fun _ => ?_) (fun g => absurd (nd_f g) (by omega)))
local macro_rules | `(tactic| walk_at "rk") => `(tactic| (repeat (first | walk_at "r" | walk_at "k")))
abbrev csOf {K : PySem.W.Frag} {mg : Str → Option Value} (T : Top K mg) : List Addr := [T.c_BadSystem, T.c_NoPost, T.c_NoRequest, T.c_BadMachine, T.c_Unsuited, T.c_BadRow, T.c_BadOffsets, T.c_BadMode, T.c_BadView, T.c_BadAsk, T.c_BadPost, T.c_TooMany, T.c_BadFraction, T.c_NotKept, T.c_BadStyle, T.c_NotNow, T.c_BadNumber, T.c_BadAsks, T.c_TooLarge, T.c_BadPosts, T.c_BadText, T.c_NoLine, T.c_NoName, T.c_NoMatch, T.c_NothingDone]
def bits (lo n i : Nat) : List V := (List.range n).map fun j => .bl (decide (i = lo + j))
def spKinds (cs : List Addr) (lo n : Nat) : Sp := fun vs H Q _ => ∃ (e C : Addr) (i : Nat), vs = [.ref e] ∧ cs[i]? = some C ∧ ErrAt H e C ∧ ∀ p, H p = none → Q (.ref p) (upd H p (.lst (bits lo n i)))
def spAlone (cs : List Addr) : Sp := fun vs H Q _ => ∃ (e C : Addr) (i : Nat), vs = [.ref e, .int i] ∧ cs[i]? = some C ∧ ErrAt H e C ∧ ∀ G, Same H G → Q (.bl true) G
def spErrors (cs : List Addr) : Sp := fun vs H Q _ => ∃ v, vs = [v] ∧ ∀ p G (es : List Addr), Same H G → G p = some (.lst (es.map V.ref)) → Paired (fun e C => ErrAt G e C) es cs → Q (.ref p) G
def spFields : Sp := fun vs H Q _ => ∃ v, vs = [v] ∧ ∀ p G, Same H G → G p = some (.lst (List.replicate 10 v)) → Q (.ref p) G
def spCaught : Sp := fun vs H Q _ => ∃ v, vs = [v] ∧ ∀ p G, Same H G → G p = some (.lst [v]) → Q (.ref p) G
section
variable {P : Program} {w : World} {K : PySem.W.Frag} {mg : Str → Option Value} {base : Heap}
theorem ok_BadSystemZ_initZ (T : Top K mg) : ∃ (fI : Addr) (fd : FuncData), PySem.W.findIn K (.ref T.c_BadSystem) "__init__" = some (some (.ref fI)) ∧ PySem.W.typeIn K (.ref fI) = some (.type "function") ∧ Binds K fd ["self", "part"] [] ∧ FnOk P w K mg base CX0 1 fI fd ["self", "part"] (spInitF K "part") := by
  obtain ⟨fI, fd, q, i, t, F, b⟩ := T.x_BadSystem.h
  refine ⟨fI, fd, i, t, b, F.ok sc_BadSystemZ_initZ (fun vs H Q E h => ?_) (fun cdv A outer s H vs Q E hr h => ?_)⟩
  · obtain ⟨a, C, v, rfl, _⟩ := h
    rfl
  · obtain ⟨a, C, v, rfl, hT, hno, ha, k⟩ := h
    refine ⟨_, pss_one (ps_ost (pv 0) (pv 1)), ?_⟩
    exact ⟨_, rfl, _, rfl, a, C, rfl, hT, hno, .inl ⟨ha, k⟩⟩
theorem ok_NoPostZ_initZ (T : Top K mg) : ∃ (fI : Addr) (fd : FuncData), PySem.W.findIn K (.ref T.c_NoPost) "__init__" = some (some (.ref fI)) ∧ PySem.W.typeIn K (.ref fI) = some (.type "function") ∧ Binds K fd ["self", "post"] [] ∧ FnOk P w K mg base CX0 1 fI fd ["self", "post"] (spInitF K "post") := by
  obtain ⟨fI, fd, q, i, t, F, b⟩ := T.x_NoPost.h
  refine ⟨fI, fd, i, t, b, F.ok sc_NoPostZ_initZ (fun vs H Q E h => ?_) (fun cdv A outer s H vs Q E hr h => ?_)⟩
  · obtain ⟨a, C, v, rfl, _⟩ := h
    rfl
  · obtain ⟨a, C, v, rfl, hT, hno, ha, k⟩ := h
    refine ⟨_, pss_one (ps_ost (pv 0) (pv 1)), ?_⟩
    exact ⟨_, rfl, _, rfl, a, C, rfl, hT, hno, .inl ⟨ha, k⟩⟩
theorem ok_NoRequestZ_initZ (T : Top K mg) : ∃ (fI : Addr) (fd : FuncData), PySem.W.findIn K (.ref T.c_NoRequest) "__init__" = some (some (.ref fI)) ∧ PySem.W.typeIn K (.ref fI) = some (.type "function") ∧ Binds K fd ["self", "name"] [] ∧ FnOk P w K mg base CX0 1 fI fd ["self", "name"] (spInitF K "name") := by
  obtain ⟨fI, fd, q, i, t, F, b⟩ := T.x_NoRequest.h
  refine ⟨fI, fd, i, t, b, F.ok sc_NoRequestZ_initZ (fun vs H Q E h => ?_) (fun cdv A outer s H vs Q E hr h => ?_)⟩
  · obtain ⟨a, C, v, rfl, _⟩ := h
    rfl
  · obtain ⟨a, C, v, rfl, hT, hno, ha, k⟩ := h
    refine ⟨_, pss_one (ps_ost (pv 0) (pv 1)), ?_⟩
    exact ⟨_, rfl, _, rfl, a, C, rfl, hT, hno, .inl ⟨ha, k⟩⟩
theorem ok_UnsuitedZ_initZ (T : Top K mg) : ∃ (fI : Addr) (fd : FuncData), PySem.W.findIn K (.ref T.c_Unsuited) "__init__" = some (some (.ref fI)) ∧ PySem.W.typeIn K (.ref fI) = some (.type "function") ∧ Binds K fd ["self", "name"] [] ∧ FnOk P w K mg base CX0 1 fI fd ["self", "name"] (spInitF K "name") := by
  obtain ⟨fI, fd, q, i, t, F, b⟩ := T.x_Unsuited.h
  refine ⟨fI, fd, i, t, b, F.ok sc_UnsuitedZ_initZ (fun vs H Q E h => ?_) (fun cdv A outer s H vs Q E hr h => ?_)⟩
  · obtain ⟨a, C, v, rfl, _⟩ := h
    rfl
  · obtain ⟨a, C, v, rfl, hT, hno, ha, k⟩ := h
    refine ⟨_, pss_one (ps_ost (pv 0) (pv 1)), ?_⟩
    exact ⟨_, rfl, _, rfl, a, C, rfl, hT, hno, .inl ⟨ha, k⟩⟩
theorem ok_BadRowZ_initZ (T : Top K mg) : ∃ (fI : Addr) (fd : FuncData), PySem.W.findIn K (.ref T.c_BadRow) "__init__" = some (some (.ref fI)) ∧ PySem.W.typeIn K (.ref fI) = some (.type "function") ∧ Binds K fd ["self", "index"] [] ∧ FnOk P w K mg base CX0 1 fI fd ["self", "index"] (spInitF K "index") := by
  obtain ⟨fI, fd, q, i, t, F, b⟩ := T.x_BadRow.h
  refine ⟨fI, fd, i, t, b, F.ok sc_BadRowZ_initZ (fun vs H Q E h => ?_) (fun cdv A outer s H vs Q E hr h => ?_)⟩
  · obtain ⟨a, C, v, rfl, _⟩ := h
    rfl
  · obtain ⟨a, C, v, rfl, hT, hno, ha, k⟩ := h
    refine ⟨_, pss_one (ps_ost (pv 0) (pv 1)), ?_⟩
    exact ⟨_, rfl, _, rfl, a, C, rfl, hT, hno, .inl ⟨ha, k⟩⟩
theorem ok_BadPostZ_initZ (T : Top K mg) : ∃ (fI : Addr) (fd : FuncData), PySem.W.findIn K (.ref T.c_BadPost) "__init__" = some (some (.ref fI)) ∧ PySem.W.typeIn K (.ref fI) = some (.type "function") ∧ Binds K fd ["self", "post"] [] ∧ FnOk P w K mg base CX0 1 fI fd ["self", "post"] (spInitF K "post") := by
  obtain ⟨fI, fd, q, i, t, F, b⟩ := T.x_BadPost.h
  refine ⟨fI, fd, i, t, b, F.ok sc_BadPostZ_initZ (fun vs H Q E h => ?_) (fun cdv A outer s H vs Q E hr h => ?_)⟩
  · obtain ⟨a, C, v, rfl, _⟩ := h
    rfl
  · obtain ⟨a, C, v, rfl, hT, hno, ha, k⟩ := h
    refine ⟨_, pss_one (ps_ost (pv 0) (pv 1)), ?_⟩
    exact ⟨_, rfl, _, rfl, a, C, rfl, hT, hno, .inl ⟨ha, k⟩⟩
theorem ok_TooManyZ_initZ (T : Top K mg) : ∃ (fI : Addr) (fd : FuncData), PySem.W.findIn K (.ref T.c_TooMany) "__init__" = some (some (.ref fI)) ∧ PySem.W.typeIn K (.ref fI) = some (.type "function") ∧ Binds K fd ["self", "most"] [] ∧ FnOk P w K mg base CX0 1 fI fd ["self", "most"] (spInitF K "most") := by
  obtain ⟨fI, fd, q, i, t, F, b⟩ := T.x_TooMany.h
  refine ⟨fI, fd, i, t, b, F.ok sc_TooManyZ_initZ (fun vs H Q E h => ?_) (fun cdv A outer s H vs Q E hr h => ?_)⟩
  · obtain ⟨a, C, v, rfl, _⟩ := h
    rfl
  · obtain ⟨a, C, v, rfl, hT, hno, ha, k⟩ := h
    refine ⟨_, pss_one (ps_ost (pv 0) (pv 1)), ?_⟩
    exact ⟨_, rfl, _, rfl, a, C, rfl, hT, hno, .inl ⟨ha, k⟩⟩
theorem ok_BadAsksZ_initZ (T : Top K mg) : ∃ (fI : Addr) (fd : FuncData), PySem.W.findIn K (.ref T.c_BadAsks) "__init__" = some (some (.ref fI)) ∧ PySem.W.typeIn K (.ref fI) = some (.type "function") ∧ Binds K fd ["self", "index"] [] ∧ FnOk P w K mg base CX0 1 fI fd ["self", "index"] (spInitF K "index") := by
  obtain ⟨fI, fd, q, i, t, F, b⟩ := T.x_BadAsks.h
  refine ⟨fI, fd, i, t, b, F.ok sc_BadAsksZ_initZ (fun vs H Q E h => ?_) (fun cdv A outer s H vs Q E hr h => ?_)⟩
  · obtain ⟨a, C, v, rfl, _⟩ := h
    rfl
  · obtain ⟨a, C, v, rfl, hT, hno, ha, k⟩ := h
    refine ⟨_, pss_one (ps_ost (pv 0) (pv 1)), ?_⟩
    exact ⟨_, rfl, _, rfl, a, C, rfl, hT, hno, .inl ⟨ha, k⟩⟩
theorem ok_BadTextZ_initZ (T : Top K mg) : ∃ (fI : Addr) (fd : FuncData), PySem.W.findIn K (.ref T.c_BadText) "__init__" = some (some (.ref fI)) ∧ PySem.W.typeIn K (.ref fI) = some (.type "function") ∧ Binds K fd ["self", "line"] [] ∧ FnOk P w K mg base CX0 1 fI fd ["self", "line"] (spInitF K "line") := by
  obtain ⟨fI, fd, q, i, t, F, b⟩ := T.x_BadText.h
  refine ⟨fI, fd, i, t, b, F.ok sc_BadTextZ_initZ (fun vs H Q E h => ?_) (fun cdv A outer s H vs Q E hr h => ?_)⟩
  · obtain ⟨a, C, v, rfl, _⟩ := h
    rfl
  · obtain ⟨a, C, v, rfl, hT, hno, ha, k⟩ := h
    refine ⟨_, pss_one (ps_ost (pv 0) (pv 1)), ?_⟩
    exact ⟨_, rfl, _, rfl, a, C, rfl, hT, hno, .inl ⟨ha, k⟩⟩
theorem ok_NoNameZ_initZ (T : Top K mg) : ∃ (fI : Addr) (fd : FuncData), PySem.W.findIn K (.ref T.c_NoName) "__init__" = some (some (.ref fI)) ∧ PySem.W.typeIn K (.ref fI) = some (.type "function") ∧ Binds K fd ["self", "name"] [] ∧ FnOk P w K mg base CX0 1 fI fd ["self", "name"] (spInitF K "name") := by
  obtain ⟨fI, fd, q, i, t, F, b⟩ := T.x_NoName.h
  refine ⟨fI, fd, i, t, b, F.ok sc_NoNameZ_initZ (fun vs H Q E h => ?_) (fun cdv A outer s H vs Q E hr h => ?_)⟩
  · obtain ⟨a, C, v, rfl, _⟩ := h
    rfl
  · obtain ⟨a, C, v, rfl, hT, hno, ha, k⟩ := h
    refine ⟨_, pss_one (ps_ost (pv 0) (pv 1)), ?_⟩
    exact ⟨_, rfl, _, rfl, a, C, rfl, hT, hno, .inl ⟨ha, k⟩⟩
theorem ok__law_first (T : Top K mg) : Ok P w K mg base 1 "_law_first" ["error"] (spKinds (csOf T) 0 12) := by
  refine ok_of T.d__law_first sc__law_first (fun vs H Q E h => ?_) (fun f cdv A outer s H vs Q E hr h => ?_)
  · obtain ⟨e, C, i, rfl, _⟩ := h
    rfl
  · obtain ⟨e, C, i, rfl, hC, at_, k⟩ := h
    refine ⟨_, (pss_one (ps_ret (pe_lst (pa_cons (pe_callB (id := "isinstance") call_isEV (by rfl) T.b_isinstance (by decide +kernel) (pa_cons (pv 0) (pa_cons (pe_glob (v := .ref T.c_BadSystem) rfl T.x_BadSystem.mg rfl) pa_nil))) (pa_cons (pe_callB (id := "isinstance") call_isEV (by rfl) T.b_isinstance (by decide +kernel) (pa_cons (pv 0) (pa_cons (pe_glob (v := .ref T.c_NoPost) rfl T.x_NoPost.mg rfl) pa_nil))) (pa_cons (pe_callB (id := "isinstance") call_isEV (by rfl) T.b_isinstance (by decide +kernel) (pa_cons (pv 0) (pa_cons (pe_glob (v := .ref T.c_NoRequest) rfl T.x_NoRequest.mg rfl) pa_nil))) (pa_cons (pe_callB (id := "isinstance") call_isEV (by rfl) T.b_isinstance (by decide +kernel) (pa_cons (pv 0) (pa_cons (pe_glob (v := .ref T.c_BadMachine) rfl T.mg_BadMachine rfl) pa_nil))) (pa_cons (pe_callB (id := "isinstance") call_isEV (by rfl) T.b_isinstance (by decide +kernel) (pa_cons (pv 0) (pa_cons (pe_glob (v := .ref T.c_Unsuited) rfl T.x_Unsuited.mg rfl) pa_nil))) (pa_cons (pe_callB (id := "isinstance") call_isEV (by rfl) T.b_isinstance (by decide +kernel) (pa_cons (pv 0) (pa_cons (pe_glob (v := .ref T.c_BadRow) rfl T.x_BadRow.mg rfl) pa_nil))) (pa_cons (pe_callB (id := "isinstance") call_isEV (by rfl) T.b_isinstance (by decide +kernel) (pa_cons (pv 0) (pa_cons (pe_glob (v := .ref T.c_BadOffsets) rfl T.mg_BadOffsets rfl) pa_nil))) (pa_cons (pe_callB (id := "isinstance") call_isEV (by rfl) T.b_isinstance (by decide +kernel) (pa_cons (pv 0) (pa_cons (pe_glob (v := .ref T.c_BadMode) rfl T.mg_BadMode rfl) pa_nil))) (pa_cons (pe_callB (id := "isinstance") call_isEV (by rfl) T.b_isinstance (by decide +kernel) (pa_cons (pv 0) (pa_cons (pe_glob (v := .ref T.c_BadView) rfl T.mg_BadView rfl) pa_nil))) (pa_cons (pe_callB (id := "isinstance") call_isEV (by rfl) T.b_isinstance (by decide +kernel) (pa_cons (pv 0) (pa_cons (pe_glob (v := .ref T.c_BadAsk) rfl T.mg_BadAsk rfl) pa_nil))) (pa_cons (pe_callB (id := "isinstance") call_isEV (by rfl) T.b_isinstance (by decide +kernel) (pa_cons (pv 0) (pa_cons (pe_glob (v := .ref T.c_BadPost) rfl T.x_BadPost.mg rfl) pa_nil))) (pa_cons (pe_callB (id := "isinstance") call_isEV (by rfl) T.b_isinstance (by decide +kernel) (pa_cons (pv 0) (pa_cons (pe_glob (v := .ref T.c_TooMany) rfl T.x_TooMany.mg rfl) pa_nil))) pa_nil))))))))))))))), ?_⟩
    have hi := (List.getElem?_eq_some_iff.mp hC).1
    have m := List.mem_of_getElem? hC
    have V := T.er.val m
    have hc : (csOf T).getD i 0 = C := by rw [List.getD_eq_getElem?_getD, hC]; rfl
    have two : ∀ j, j < 25 → PySem.W.kitOne K (.ref C) (.ref ((csOf T).getD j 0)) = some (decide (i = j)) := fun j hj => by
      rw [← hc]; exact T.er.two i j hi hj
    refine ⟨_, rfl, e, C, _, _, _, rfl, at_, V, .own _, two 0 (by decide), ?_⟩
    refine ⟨_, rfl, e, C, _, _, _, rfl, at_, V, .own _, two 1 (by decide), ?_⟩
    refine ⟨_, rfl, e, C, _, _, _, rfl, at_, V, .own _, two 2 (by decide), ?_⟩
    refine ⟨_, rfl, e, C, _, _, _, rfl, at_, V, .own _, two 3 (by decide), ?_⟩
    refine ⟨_, rfl, e, C, _, _, _, rfl, at_, V, .own _, two 4 (by decide), ?_⟩
    refine ⟨_, rfl, e, C, _, _, _, rfl, at_, V, .own _, two 5 (by decide), ?_⟩
    refine ⟨_, rfl, e, C, _, _, _, rfl, at_, V, .own _, two 6 (by decide), ?_⟩
    refine ⟨_, rfl, e, C, _, _, _, rfl, at_, V, .own _, two 7 (by decide), ?_⟩
    refine ⟨_, rfl, e, C, _, _, _, rfl, at_, V, .own _, two 8 (by decide), ?_⟩
    refine ⟨_, rfl, e, C, _, _, _, rfl, at_, V, .own _, two 9 (by decide), ?_⟩
    refine ⟨_, rfl, e, C, _, _, _, rfl, at_, V, .own _, two 10 (by decide), ?_⟩
    refine ⟨_, rfl, e, C, _, _, _, rfl, at_, V, .own _, two 11 (by decide), ?_⟩
    exact ⟨(by show 12 ≤ sizeLine; decide), fun p np => k p np⟩
theorem ok__law_last (T : Top K mg) : Ok P w K mg base 1 "_law_last" ["error"] (spKinds (csOf T) 12 13) := by
  refine ok_of T.d__law_last sc__law_last (fun vs H Q E h => ?_) (fun f cdv A outer s H vs Q E hr h => ?_)
  · obtain ⟨e, C, i, rfl, _⟩ := h
    rfl
  · obtain ⟨e, C, i, rfl, hC, at_, k⟩ := h
    refine ⟨_, (pss_one (ps_ret (pe_lst (pa_cons (pe_callB (id := "isinstance") call_isEV (by rfl) T.b_isinstance (by decide +kernel) (pa_cons (pv 0) (pa_cons (pe_glob (v := .ref T.c_BadFraction) rfl T.mg_BadFraction rfl) pa_nil))) (pa_cons (pe_callB (id := "isinstance") call_isEV (by rfl) T.b_isinstance (by decide +kernel) (pa_cons (pv 0) (pa_cons (pe_glob (v := .ref T.c_NotKept) rfl T.mg_NotKept rfl) pa_nil))) (pa_cons (pe_callB (id := "isinstance") call_isEV (by rfl) T.b_isinstance (by decide +kernel) (pa_cons (pv 0) (pa_cons (pe_glob (v := .ref T.c_BadStyle) rfl T.mg_BadStyle rfl) pa_nil))) (pa_cons (pe_callB (id := "isinstance") call_isEV (by rfl) T.b_isinstance (by decide +kernel) (pa_cons (pv 0) (pa_cons (pe_glob (v := .ref T.c_NotNow) rfl T.mg_NotNow rfl) pa_nil))) (pa_cons (pe_callB (id := "isinstance") call_isEV (by rfl) T.b_isinstance (by decide +kernel) (pa_cons (pv 0) (pa_cons (pe_glob (v := .ref T.c_BadNumber) rfl T.mg_BadNumber rfl) pa_nil))) (pa_cons (pe_callB (id := "isinstance") call_isEV (by rfl) T.b_isinstance (by decide +kernel) (pa_cons (pv 0) (pa_cons (pe_glob (v := .ref T.c_BadAsks) rfl T.x_BadAsks.mg rfl) pa_nil))) (pa_cons (pe_callB (id := "isinstance") call_isEV (by rfl) T.b_isinstance (by decide +kernel) (pa_cons (pv 0) (pa_cons (pe_glob (v := .ref T.c_TooLarge) rfl T.mg_TooLarge rfl) pa_nil))) (pa_cons (pe_callB (id := "isinstance") call_isEV (by rfl) T.b_isinstance (by decide +kernel) (pa_cons (pv 0) (pa_cons (pe_glob (v := .ref T.c_BadPosts) rfl T.mg_BadPosts rfl) pa_nil))) (pa_cons (pe_callB (id := "isinstance") call_isEV (by rfl) T.b_isinstance (by decide +kernel) (pa_cons (pv 0) (pa_cons (pe_glob (v := .ref T.c_BadText) rfl T.x_BadText.mg rfl) pa_nil))) (pa_cons (pe_callB (id := "isinstance") call_isEV (by rfl) T.b_isinstance (by decide +kernel) (pa_cons (pv 0) (pa_cons (pe_glob (v := .ref T.c_NoLine) rfl T.mg_NoLine rfl) pa_nil))) (pa_cons (pe_callB (id := "isinstance") call_isEV (by rfl) T.b_isinstance (by decide +kernel) (pa_cons (pv 0) (pa_cons (pe_glob (v := .ref T.c_NoName) rfl T.x_NoName.mg rfl) pa_nil))) (pa_cons (pe_callB (id := "isinstance") call_isEV (by rfl) T.b_isinstance (by decide +kernel) (pa_cons (pv 0) (pa_cons (pe_glob (v := .ref T.c_NoMatch) rfl T.mg_NoMatch rfl) pa_nil))) (pa_cons (pe_callB (id := "isinstance") call_isEV (by rfl) T.b_isinstance (by decide +kernel) (pa_cons (pv 0) (pa_cons (pe_glob (v := .ref T.c_NothingDone) rfl T.mg_NothingDone rfl) pa_nil))) pa_nil)))))))))))))))), ?_⟩
    have hi := (List.getElem?_eq_some_iff.mp hC).1
    have m := List.mem_of_getElem? hC
    have V := T.er.val m
    have hc : (csOf T).getD i 0 = C := by rw [List.getD_eq_getElem?_getD, hC]; rfl
    have two : ∀ j, j < 25 → PySem.W.kitOne K (.ref C) (.ref ((csOf T).getD j 0)) = some (decide (i = j)) := fun j hj => by
      rw [← hc]; exact T.er.two i j hi hj
    refine ⟨_, rfl, e, C, _, _, _, rfl, at_, V, .own _, two 12 (by decide), ?_⟩
    refine ⟨_, rfl, e, C, _, _, _, rfl, at_, V, .own _, two 13 (by decide), ?_⟩
    refine ⟨_, rfl, e, C, _, _, _, rfl, at_, V, .own _, two 14 (by decide), ?_⟩
    refine ⟨_, rfl, e, C, _, _, _, rfl, at_, V, .own _, two 15 (by decide), ?_⟩
    refine ⟨_, rfl, e, C, _, _, _, rfl, at_, V, .own _, two 16 (by decide), ?_⟩
    refine ⟨_, rfl, e, C, _, _, _, rfl, at_, V, .own _, two 17 (by decide), ?_⟩
    refine ⟨_, rfl, e, C, _, _, _, rfl, at_, V, .own _, two 18 (by decide), ?_⟩
    refine ⟨_, rfl, e, C, _, _, _, rfl, at_, V, .own _, two 19 (by decide), ?_⟩
    refine ⟨_, rfl, e, C, _, _, _, rfl, at_, V, .own _, two 20 (by decide), ?_⟩
    refine ⟨_, rfl, e, C, _, _, _, rfl, at_, V, .own _, two 21 (by decide), ?_⟩
    refine ⟨_, rfl, e, C, _, _, _, rfl, at_, V, .own _, two 22 (by decide), ?_⟩
    refine ⟨_, rfl, e, C, _, _, _, rfl, at_, V, .own _, two 23 (by decide), ?_⟩
    refine ⟨_, rfl, e, C, _, _, _, rfl, at_, V, .own _, two 24 (by decide), ?_⟩
    exact ⟨(by show 13 ≤ sizeLine; decide), fun p np => k p np⟩
theorem bits_at {i k : Nat} (hk : k < 25) : (bits 0 12 i ++ bits 12 13 i)[k]? = some (.bl (decide (i = k))) := by
  unfold bits
  by_cases h : k < 12
  · rw [List.getElem?_append_left (by rw [List.length_map, List.length_range]; exact h), List.getElem?_map, List.getElem?_range h]
    simp
  · rw [List.getElem?_append_right (by rw [List.length_map, List.length_range]; omega), List.length_map, List.length_range, List.getElem?_map, List.getElem?_range (by omega)]
    simp only [Option.map_some]
    rw [show 12 + (k - 12) = k by omega]
theorem bits_len {i : Nat} : (bits 0 12 i ++ bits 12 13 i).length = 25 := by
  unfold bits
  rw [List.length_append, List.length_map, List.length_map, List.length_range, List.length_range]
theorem ok__law_alone (T : Top K mg) : Ok P w K mg base 2 "_law_alone" ["error", "place"] (spAlone (csOf T)) := by
  refine ok_of T.d__law_alone sc__law_alone (fun vs H Q E h => ?_) (fun f cdv A outer s H vs Q E hr h => ?_)
  · obtain ⟨e, C, i, rfl, _⟩ := h
    rfl
  · obtain ⟨e, C, i, rfl, hC, at_, k⟩ := h
    obtain ⟨f__law_first, fd__law_first, m__law_first, k__law_first, b__law_first, G__law_first⟩ := ok__law_first (P := P) (w := w) (base := base) T
    have hr__law_first : Room 1 _ := hr.mono (by decide)
    obtain ⟨f__law_last, fd__law_last, m__law_last, k__law_last, b__law_last, G__law_last⟩ := ok__law_last (P := P) (w := w) (base := base) T
    have hr__law_last : Room 1 _ := hr.mono (by decide)
    refine ⟨_, (pss_cons (ps_set (i := 2) sc__law_alone.nd rfl (Or.inl rfl) (pe_op op_cat (pe_call G__law_first hr__law_first rfl m__law_first k__law_first b__law_first .nil pass0 (pa_cons (pv 0) pa_nil)) (pe_call G__law_last hr__law_last rfl m__law_last k__law_last b__law_last .nil pass0 (pa_cons (pv 0) pa_nil))))
      (pss_cons (ps_for PassesOwn.never rfl (pi_range1 (by rfl) T.b_range (pa_cons (pe_callB (id := "len") call_len_seq (by rfl) T.b_len (by decide +kernel) (pa_cons (pv 2) pa_nil)) pa_nil)) (pg_name (i := 3) sc__law_alone.nd rfl (Or.inl rfl))
      (pss_one (ps_if (pt_cmpR op_ne (pe_ix ix_list (pv 2) (pv 3) (fun _ _ => rfl)) (pe_cmpR op_eq (pv 3) (pv 1) (nomark _)) (nomark _))
      (pss_one (ps_ret pe_bl))
      pss_nil)))
      (pss_cons (ps_if (pt_val (pe_callB (id := "isinstance") call_isEVT (by rfl) T.b_isinstance (by decide +kernel) (pa_cons (pv 0) (pa_cons (pe_tup (pa_cons (pe_bltn (v := .ty "LookupError") (u := .type "LookupError") (by rfl) T.b_LookupError (by decide +kernel) rfl) (pa_cons (pe_bltn (v := .ty "ArithmeticError") (u := .type "ArithmeticError") (by rfl) T.b_ArithmeticError (by decide +kernel) rfl) (pa_cons (pe_bltn (v := .ty "RuntimeError") (u := .type "RuntimeError") (by rfl) T.b_RuntimeError (by decide +kernel) rfl) (pa_cons (pe_bltn (v := .ty "TypeError") (u := .type "TypeError") (by rfl) T.b_TypeError (by decide +kernel) rfl) (pa_cons (pe_bltn (v := .ty "AttributeError") (u := .type "AttributeError") (by rfl) T.b_AttributeError (by decide +kernel) rfl) pa_nil)))))) pa_nil))))
      (pss_one (ps_ret pe_bl))
      pss_nil)
      (pss_one (ps_ret (pe_and (pe_callB (id := "isinstance") call_isEV (by rfl) T.b_isinstance (by decide +kernel) (pa_cons (pv 0) (pa_cons (pe_glob (v := .ref T.c_HintError) rfl T.mg_HintError rfl) pa_nil))) (pe_one (pe_callB (id := "isinstance") call_isEV (by rfl) T.b_isinstance (by decide +kernel) (pa_cons (pv 0) (pa_cons (pe_bltn (v := .ty "ValueError") (u := .type "ValueError") (by rfl) T.b_ValueError (by decide +kernel) rfl) pa_nil)))))))))), ?_⟩
    have m := List.mem_of_getElem? hC
    refine ⟨_, rfl, e, C, i, rfl, hC, at_, fun p1 n1 => ?_⟩
    have s1 : Same H (upd H p1 (.lst (bits 0 12 i))) := same_new n1
    have l1 : (upd H p1 (.lst (bits 0 12 i))) p1 = some (.lst (bits 0 12 i)) := upd_same
    generalize upd H p1 (.lst (bits 0 12 i)) = H1 at *
    refine ⟨_, rfl, e, C, i, rfl, hC, at_.keep s1, fun p2 n2 => ?_⟩
    have s2 : Same H1 (upd H1 p2 (.lst (bits 12 13 i))) := same_new n2
    have l2 : (upd H1 p2 (.lst (bits 12 13 i))) p2 = some (.lst (bits 12 13 i)) := upd_same
    generalize upd H1 p2 (.lst (bits 12 13 i)) = H2 at *
    refine ⟨_, _, _, _, rfl, rfl, s2 _ _ l1, l2, (by show 12 + 13 ≤ sizeLine; decide), fun p3 n3 => ?_⟩
    have s3 : Same H2 (upd H2 p3 (.lst (bits 0 12 i ++ bits 12 13 i))) := same_new n3
    have l3 : (upd H2 p3 (.lst (bits 0 12 i ++ bits 12 13 i))) p3 = some (.lst (bits 0 12 i ++ bits 12 13 i)) := upd_same
    generalize upd H2 p3 (.lst (bits 0 12 i ++ bits 12 13 i)) = H3 at *
    have s13 := (s1.trans s2).trans s3
    refine ⟨_, rfl, _, _, rfl, .inl (SqL.of l3), ?_⟩
    rw [bits_len]
    refine ⟨_, rfl, by decide, by decide, ?_⟩
    refine for_range (lo := 0) (n := 25) (fun j σ' H' => H3 = H' ∧ ∃ o, σ' = [some (.ref e), some (.int i), some (.ref p3), o]) ⟨rfl, _, rfl⟩ ?_ ?_
    · rintro j σ' H' hj ⟨rfl, o, rfl⟩
      have at3 : atI (bits 0 12 i ++ bits 12 13 i) ((j : Nat) : Int) = some (.bl (decide (i = j))) := atI_nat (bits_at hj)
      rw [Int.zero_add]
      refine ⟨_, rfl, _, rfl, p3, _, _, _, rfl, rfl, SqL.of l3, at3, _, rfl, _, rfl, rfl, rfl, _, rfl, ?_⟩
      refine ite2 (fun g => ?_) (fun g => ⟨rfl, _, rfl⟩)
      exfalso
      by_cases e : i = j
      · subst e
        simp at g
      · have e2 : ¬ (V.int (j : Nat)) = V.int (i : Nat) := fun z => e (by injection z with z; omega)
        rw [decide_eq_false e, decide_eq_false e2] at g
        simp at g
    · rintro σ' H' ⟨rfl, o, rfl⟩
      refine ⟨_, rfl, (by show 5 ≤ sizeLine; decide), fun p4 n4 => ?_⟩
      have s4 : Same H3 (upd H3 p4 (.tup [.ty "LookupError", .ty "ArithmeticError", .ty "RuntimeError", .ty "TypeError", .ty "AttributeError"])) := same_new n4
      have l4 : (upd H3 p4 (.tup [.ty "LookupError", .ty "ArithmeticError", .ty "RuntimeError", .ty "TypeError", .ty "AttributeError"])) p4 = some (.tup [.ty "LookupError", .ty "ArithmeticError", .ty "RuntimeError", .ty "TypeError", .ty "AttributeError"]) := upd_same
      generalize upd H3 p4 (.tup [.ty "LookupError", .ty "ArithmeticError", .ty "RuntimeError", .ty "TypeError", .ty "AttributeError"]) = H4 at *
      refine ⟨e, C, p4, _, five, false, rfl, at_.keep (s13.trans s4), T.er.val m, l4, .cons (.ty _) (.cons (.ty _) (.cons (.ty _) (.cons (.ty _) (.cons (.ty _) .nil)))), T.er.noOther m, _, rfl, ?_⟩
      refine ite2 (fun g => nomatch g) (fun _ => ?_)
      have at4 := at_.keep (s13.trans s4)
      refine ⟨_, rfl, e, C, _, _, true, rfl, at4, T.er.val m, .own _, T.er.root m, true, rfl, ?_⟩
      refine ite2 (fun _ => ?_) (fun g => absurd rfl g)
      exact ⟨_, rfl, e, C, _, _, true, rfl, at4, T.er.val m, .ty _, T.er.isVE m, k _ (s13.trans s4)⟩
end
end Toy

namespace Toy
open PySem PySem.Spec PyProof.Rows L2
local macro_rules | `(tactic| walk_at "hp") => `(tactic| first
  | assumption
  | exact upd_same
  | (refine Eq.trans (upd_ne (by first | assumption | (apply Ne.symm; assumption))) ?_; walk_at "hp"))
local macro_rules | `(tactic| walk_at "side") => `(tactic| first
  | exact .inl ⟨by omega, by omega⟩
  | exact .inr ⟨by omega, by omega⟩
  | exact ⟨by omega, by omega⟩
  | (show _ ≤ _; omega)
  | (show (_ : Int) < _; omega)
  | decide
  | assumption)
local macro_rules | `(tactic| walk_at "r") => `(tactic| first
  | refine ⟨_, rfl, ?_⟩
  | refine ⟨_, _, rfl, rfl, ?_⟩
  | refine ⟨_, _, _, _, rfl, rfl, SqL.of (by walk_at "hp"), rfl, ?_⟩
  | refine ⟨_, _, _, _, rfl, rfl, SqT.of (by walk_at "hp"), rfl, ?_⟩
  | refine ⟨_, _, _, _, rfl, rfl, (by walk_at "hp"), rfl, ?_⟩
  | refine And.intro rfl ?_
  | refine ⟨_, _, rfl, SqT.of (by walk_at "hp"), ?_⟩
  | refine ⟨_, _, rfl, SqL.of (by walk_at "hp"), ?_⟩
  | refine .inl ⟨_, rfl, ?_⟩
  | refine ⟨_, _, rfl, .inl (SqL.of (by walk_at "hp")), ?_⟩
  | refine ⟨_, _, rfl, .inr (SqT.of (by walk_at "hp")), ?_⟩
  | refine ⟨_, _, rfl, .inl ⟨SqL.of (by walk_at "hp"), ?_⟩⟩
  | refine And.intro (.inl ⟨rfl, _, SqL.of (by walk_at "hp")⟩) ?_
  | refine ⟨_, _, _, rfl, rfl, (by walk_at "hp"), ?_⟩
  | refine ⟨_, _, rfl, (by walk_at "hp"), ?_⟩
  | refine And.intro (by walk_at "side") ?_)
local macro_rules | `(tactic| walk_at "rr") => `(tactic| (repeat walk_at "r"))
local macro_rules | `(tactic| walk_at "k") => `(tactic| first
  | refine ite2 (fun _ => ?_) (fun g => absurd rfl g)
  | refine ite2 (fun g => absurd g (by decide)) (fun _ => ?_)
  | refine ite2 (fun _ => ?_) (fun g => absurd (decide_eq_true (by omega)) g)
  | refine ite2 (fun g => absurd (of_decide_eq_true g) (by omega)) (fun _ => ?_)
  | refine ite2 (fun g => (nd_t g (by omega)).elim) (fun _ => ?_)
  | refine ite2 (fun _ => ?_) (fun g => absurd (nd_f g) (by omega)))
local macro_rules | `(tactic| walk_at "rk") => `(tactic| (repeat (first | walk_at "r" | walk_at "k")))
section
variable {P : Program} {w : World} {K : PySem.W.Frag} {mg : Str → Option Value} {base : Heap}
theorem ok__law_errors (T : Top K mg) : Ok P w K mg base 3 "_law_errors" ["thing"] (spErrors (csOf T)) := by
  refine ok_of T.d__law_errors sc__law_errors (fun vs H Q E h => ?_) (fun f cdv A outer s H vs Q E hr h => ?_)
  · obtain ⟨v, rfl, _⟩ := h
    rfl
  · obtain ⟨v, rfl, k⟩ := h
    obtain ⟨f_BadSystem, fd_BadSystem, i_BadSystem, t_BadSystem, b_BadSystem, G_BadSystem⟩ := ok_BadSystemZ_initZ (P := P) (w := w) (base := base) T
    have hr_BadSystem : Room 2 _ := hr.mono (by decide)
    obtain ⟨f_NoPost, fd_NoPost, i_NoPost, t_NoPost, b_NoPost, G_NoPost⟩ := ok_NoPostZ_initZ (P := P) (w := w) (base := base) T
    have hr_NoPost : Room 2 _ := hr.mono (by decide)
    obtain ⟨f_NoRequest, fd_NoRequest, i_NoRequest, t_NoRequest, b_NoRequest, G_NoRequest⟩ := ok_NoRequestZ_initZ (P := P) (w := w) (base := base) T
    have hr_NoRequest : Room 2 _ := hr.mono (by decide)
    obtain ⟨f_Unsuited, fd_Unsuited, i_Unsuited, t_Unsuited, b_Unsuited, G_Unsuited⟩ := ok_UnsuitedZ_initZ (P := P) (w := w) (base := base) T
    have hr_Unsuited : Room 2 _ := hr.mono (by decide)
    obtain ⟨f_BadRow, fd_BadRow, i_BadRow, t_BadRow, b_BadRow, G_BadRow⟩ := ok_BadRowZ_initZ (P := P) (w := w) (base := base) T
    have hr_BadRow : Room 2 _ := hr.mono (by decide)
    obtain ⟨f_BadPost, fd_BadPost, i_BadPost, t_BadPost, b_BadPost, G_BadPost⟩ := ok_BadPostZ_initZ (P := P) (w := w) (base := base) T
    have hr_BadPost : Room 2 _ := hr.mono (by decide)
    obtain ⟨f_TooMany, fd_TooMany, i_TooMany, t_TooMany, b_TooMany, G_TooMany⟩ := ok_TooManyZ_initZ (P := P) (w := w) (base := base) T
    have hr_TooMany : Room 2 _ := hr.mono (by decide)
    obtain ⟨f_BadAsks, fd_BadAsks, i_BadAsks, t_BadAsks, b_BadAsks, G_BadAsks⟩ := ok_BadAsksZ_initZ (P := P) (w := w) (base := base) T
    have hr_BadAsks : Room 2 _ := hr.mono (by decide)
    obtain ⟨f_BadText, fd_BadText, i_BadText, t_BadText, b_BadText, G_BadText⟩ := ok_BadTextZ_initZ (P := P) (w := w) (base := base) T
    have hr_BadText : Room 2 _ := hr.mono (by decide)
    obtain ⟨f_NoName, fd_NoName, i_NoName, t_NoName, b_NoName, G_NoName⟩ := ok_NoNameZ_initZ (P := P) (w := w) (base := base) T
    have hr_NoName : Room 2 _ := hr.mono (by decide)
    refine ⟨_, (pss_cons (ps_set (i := 1) sc__law_errors.nd rfl (Or.inl rfl) (pe_lst (pa_cons (pe_mkV T.x_BadSystem.T i_BadSystem t_BadSystem G_BadSystem hr_BadSystem b_BadSystem pass0 (by rfl) T.x_BadSystem.mg (pa_cons (pv 0) pa_nil)) (pa_cons (pe_mkV T.x_NoPost.T i_NoPost t_NoPost G_NoPost hr_NoPost b_NoPost pass0 (by rfl) T.x_NoPost.mg (pa_cons (pv 0) pa_nil)) (pa_cons (pe_mkV T.x_NoRequest.T i_NoRequest t_NoRequest G_NoRequest hr_NoRequest b_NoRequest pass0 (by rfl) T.x_NoRequest.mg (pa_cons (pv 0) pa_nil)) (pa_cons (pe_err0 PySem.F.excBase_ValueError T.y_BadMachine.ex T.mg_BadMachine T.y_BadMachine.kp rfl) (pa_cons (pe_mkV T.x_Unsuited.T i_Unsuited t_Unsuited G_Unsuited hr_Unsuited b_Unsuited pass0 (by rfl) T.x_Unsuited.mg (pa_cons (pv 0) pa_nil)) (pa_cons (pe_mkV T.x_BadRow.T i_BadRow t_BadRow G_BadRow hr_BadRow b_BadRow pass0 (by rfl) T.x_BadRow.mg (pa_cons (pv 0) pa_nil)) pa_nil))))))))
      (pss_cons (ps_set (i := 1) sc__law_errors.nd rfl (Or.inl rfl) (pe_op op_cat (pv 1) (pe_lst (pa_cons (pe_err0 PySem.F.excBase_ValueError T.y_BadOffsets.ex T.mg_BadOffsets T.y_BadOffsets.kp rfl) (pa_cons (pe_err0 PySem.F.excBase_ValueError T.y_BadMode.ex T.mg_BadMode T.y_BadMode.kp rfl) (pa_cons (pe_err0 PySem.F.excBase_ValueError T.y_BadView.ex T.mg_BadView T.y_BadView.kp rfl) (pa_cons (pe_err0 PySem.F.excBase_ValueError T.y_BadAsk.ex T.mg_BadAsk T.y_BadAsk.kp rfl) (pa_cons (pe_mkV T.x_BadPost.T i_BadPost t_BadPost G_BadPost hr_BadPost b_BadPost pass0 (by rfl) T.x_BadPost.mg (pa_cons (pv 0) pa_nil)) (pa_cons (pe_mkV T.x_TooMany.T i_TooMany t_TooMany G_TooMany hr_TooMany b_TooMany pass0 (by rfl) T.x_TooMany.mg (pa_cons (pv 0) pa_nil)) (pa_cons (pe_err0 PySem.F.excBase_ValueError T.y_BadFraction.ex T.mg_BadFraction T.y_BadFraction.kp rfl) pa_nil))))))))))
      (pss_cons (ps_set (i := 1) sc__law_errors.nd rfl (Or.inl rfl) (pe_op op_cat (pv 1) (pe_lst (pa_cons (pe_err0 PySem.F.excBase_ValueError T.y_NotKept.ex T.mg_NotKept T.y_NotKept.kp rfl) (pa_cons (pe_err0 PySem.F.excBase_ValueError T.y_BadStyle.ex T.mg_BadStyle T.y_BadStyle.kp rfl) (pa_cons (pe_err0 PySem.F.excBase_ValueError T.y_NotNow.ex T.mg_NotNow T.y_NotNow.kp rfl) (pa_cons (pe_err0 PySem.F.excBase_ValueError T.y_BadNumber.ex T.mg_BadNumber T.y_BadNumber.kp rfl) (pa_cons (pe_mkV T.x_BadAsks.T i_BadAsks t_BadAsks G_BadAsks hr_BadAsks b_BadAsks pass0 (by rfl) T.x_BadAsks.mg (pa_cons (pv 0) pa_nil)) (pa_cons (pe_err0 PySem.F.excBase_ValueError T.y_TooLarge.ex T.mg_TooLarge T.y_TooLarge.kp rfl) (pa_cons (pe_err0 PySem.F.excBase_ValueError T.y_BadPosts.ex T.mg_BadPosts T.y_BadPosts.kp rfl) pa_nil))))))))))
      (pss_one (ps_ret (pe_op op_cat (pv 1) (pe_lst (pa_cons (pe_mkV T.x_BadText.T i_BadText t_BadText G_BadText hr_BadText b_BadText pass0 (by rfl) T.x_BadText.mg (pa_cons (pv 0) pa_nil)) (pa_cons (pe_err0 PySem.F.excBase_ValueError T.y_NoLine.ex T.mg_NoLine T.y_NoLine.kp rfl) (pa_cons (pe_mkV T.x_NoName.T i_NoName t_NoName G_NoName hr_NoName b_NoName pass0 (by rfl) T.x_NoName.mg (pa_cons (pv 0) pa_nil)) (pa_cons (pe_err0 PySem.F.excBase_ValueError T.y_NoMatch.ex T.mg_NoMatch T.y_NoMatch.kp rfl) (pa_cons (pe_err0 PySem.F.excBase_ValueError T.y_NothingDone.ex T.mg_NothingDone T.y_NothingDone.kp rfl) pa_nil)))))))))))), ?_⟩
    refine ⟨_, rfl, mk_val T.x_BadSystem.T T.x_BadSystem.no fun a1 d1 G1 s1 n1 e1 f1 => ?_⟩
    refine ⟨_, rfl, mk_val T.x_NoPost.T T.x_NoPost.no fun a2 d2 G2 s2 n2 e2 f2 => ?_⟩
    refine ⟨_, rfl, mk_val T.x_NoRequest.T T.x_NoRequest.no fun a3 d3 G3 s3 n3 e3 f3 => ?_⟩
    refine fun a4 n4 => ?_
    have s4 : Same G3 (upd G3 a4 (ExO (.ref T.c_BadMachine) a4)) := same_new n4
    have e4 : (upd G3 a4 (ExO (.ref T.c_BadMachine) a4)) a4 = some (ExO (.ref T.c_BadMachine) a4) := upd_same
    generalize upd G3 a4 (ExO (.ref T.c_BadMachine) a4) = G4 at *
    refine ⟨_, rfl, mk_val T.x_Unsuited.T T.x_Unsuited.no fun a5 d5 G5 s5 n5 e5 f5 => ?_⟩
    refine ⟨_, rfl, mk_val T.x_BadRow.T T.x_BadRow.no fun a6 d6 G6 s6 n6 e6 f6 => ?_⟩
    refine ⟨(by show 6 ≤ sizeLine; decide), fun p1 m1 => ?_⟩
    have t1 : Same G6 (upd G6 p1 (.lst [V.ref a1, V.ref a2, V.ref a3, V.ref a4, V.ref a5, V.ref a6])) := same_new m1
    have l1 : (upd G6 p1 (.lst [V.ref a1, V.ref a2, V.ref a3, V.ref a4, V.ref a5, V.ref a6])) p1 = some (.lst [V.ref a1, V.ref a2, V.ref a3, V.ref a4, V.ref a5, V.ref a6]) := upd_same
    generalize upd G6 p1 (.lst [V.ref a1, V.ref a2, V.ref a3, V.ref a4, V.ref a5, V.ref a6]) = L1 at *
    refine ⟨_, rfl, ?_⟩
    refine fun a7 n7 => ?_
    have s7 : Same L1 (upd L1 a7 (ExO (.ref T.c_BadOffsets) a7)) := same_new n7
    have e7 : (upd L1 a7 (ExO (.ref T.c_BadOffsets) a7)) a7 = some (ExO (.ref T.c_BadOffsets) a7) := upd_same
    generalize upd L1 a7 (ExO (.ref T.c_BadOffsets) a7) = G7 at *
    refine fun a8 n8 => ?_
    have s8 : Same G7 (upd G7 a8 (ExO (.ref T.c_BadMode) a8)) := same_new n8
    have e8 : (upd G7 a8 (ExO (.ref T.c_BadMode) a8)) a8 = some (ExO (.ref T.c_BadMode) a8) := upd_same
    generalize upd G7 a8 (ExO (.ref T.c_BadMode) a8) = G8 at *
    refine fun a9 n9 => ?_
    have s9 : Same G8 (upd G8 a9 (ExO (.ref T.c_BadView) a9)) := same_new n9
    have e9 : (upd G8 a9 (ExO (.ref T.c_BadView) a9)) a9 = some (ExO (.ref T.c_BadView) a9) := upd_same
    generalize upd G8 a9 (ExO (.ref T.c_BadView) a9) = G9 at *
    refine fun a10 n10 => ?_
    have s10 : Same G9 (upd G9 a10 (ExO (.ref T.c_BadAsk) a10)) := same_new n10
    have e10 : (upd G9 a10 (ExO (.ref T.c_BadAsk) a10)) a10 = some (ExO (.ref T.c_BadAsk) a10) := upd_same
    generalize upd G9 a10 (ExO (.ref T.c_BadAsk) a10) = G10 at *
    refine ⟨_, rfl, mk_val T.x_BadPost.T T.x_BadPost.no fun a11 d11 G11 s11 n11 e11 f11 => ?_⟩
    refine ⟨_, rfl, mk_val T.x_TooMany.T T.x_TooMany.no fun a12 d12 G12 s12 n12 e12 f12 => ?_⟩
    refine fun a13 n13 => ?_
    have s13 : Same G12 (upd G12 a13 (ExO (.ref T.c_BadFraction) a13)) := same_new n13
    have e13 : (upd G12 a13 (ExO (.ref T.c_BadFraction) a13)) a13 = some (ExO (.ref T.c_BadFraction) a13) := upd_same
    generalize upd G12 a13 (ExO (.ref T.c_BadFraction) a13) = G13 at *
    refine ⟨(by show 7 ≤ sizeLine; decide), fun p2 m2 => ?_⟩
    have t2 : Same G13 (upd G13 p2 (.lst [V.ref a7, V.ref a8, V.ref a9, V.ref a10, V.ref a11, V.ref a12, V.ref a13])) := same_new m2
    have l2 : (upd G13 p2 (.lst [V.ref a7, V.ref a8, V.ref a9, V.ref a10, V.ref a11, V.ref a12, V.ref a13])) p2 = some (.lst [V.ref a7, V.ref a8, V.ref a9, V.ref a10, V.ref a11, V.ref a12, V.ref a13]) := upd_same
    generalize upd G13 p2 (.lst [V.ref a7, V.ref a8, V.ref a9, V.ref a10, V.ref a11, V.ref a12, V.ref a13]) = L2 at *
    refine ⟨_, _, _, _, rfl, rfl, (t2 _ _ (s13 _ _ (s12 _ _ (s11 _ _ (s10 _ _ (s9 _ _ (s8 _ _ (s7 _ _ l1)))))))), l2, (by show 6 + 7 ≤ sizeLine; decide), fun p3 m3 => ?_⟩
    have t3 : Same L2 (upd L2 p3 (.lst ([V.ref a1, V.ref a2, V.ref a3, V.ref a4, V.ref a5, V.ref a6] ++ [V.ref a7, V.ref a8, V.ref a9, V.ref a10, V.ref a11, V.ref a12, V.ref a13]))) := same_new m3
    have l3 : (upd L2 p3 (.lst ([V.ref a1, V.ref a2, V.ref a3, V.ref a4, V.ref a5, V.ref a6] ++ [V.ref a7, V.ref a8, V.ref a9, V.ref a10, V.ref a11, V.ref a12, V.ref a13]))) p3 = some (.lst ([V.ref a1, V.ref a2, V.ref a3, V.ref a4, V.ref a5, V.ref a6] ++ [V.ref a7, V.ref a8, V.ref a9, V.ref a10, V.ref a11, V.ref a12, V.ref a13])) := upd_same
    generalize upd L2 p3 (.lst ([V.ref a1, V.ref a2, V.ref a3, V.ref a4, V.ref a5, V.ref a6] ++ [V.ref a7, V.ref a8, V.ref a9, V.ref a10, V.ref a11, V.ref a12, V.ref a13])) = L3 at *
    refine ⟨_, rfl, ?_⟩
    refine fun a14 n14 => ?_
    have s14 : Same L3 (upd L3 a14 (ExO (.ref T.c_NotKept) a14)) := same_new n14
    have e14 : (upd L3 a14 (ExO (.ref T.c_NotKept) a14)) a14 = some (ExO (.ref T.c_NotKept) a14) := upd_same
    generalize upd L3 a14 (ExO (.ref T.c_NotKept) a14) = G14 at *
    refine fun a15 n15 => ?_
    have s15 : Same G14 (upd G14 a15 (ExO (.ref T.c_BadStyle) a15)) := same_new n15
    have e15 : (upd G14 a15 (ExO (.ref T.c_BadStyle) a15)) a15 = some (ExO (.ref T.c_BadStyle) a15) := upd_same
    generalize upd G14 a15 (ExO (.ref T.c_BadStyle) a15) = G15 at *
    refine fun a16 n16 => ?_
    have s16 : Same G15 (upd G15 a16 (ExO (.ref T.c_NotNow) a16)) := same_new n16
    have e16 : (upd G15 a16 (ExO (.ref T.c_NotNow) a16)) a16 = some (ExO (.ref T.c_NotNow) a16) := upd_same
    generalize upd G15 a16 (ExO (.ref T.c_NotNow) a16) = G16 at *
    refine fun a17 n17 => ?_
    have s17 : Same G16 (upd G16 a17 (ExO (.ref T.c_BadNumber) a17)) := same_new n17
    have e17 : (upd G16 a17 (ExO (.ref T.c_BadNumber) a17)) a17 = some (ExO (.ref T.c_BadNumber) a17) := upd_same
    generalize upd G16 a17 (ExO (.ref T.c_BadNumber) a17) = G17 at *
    refine ⟨_, rfl, mk_val T.x_BadAsks.T T.x_BadAsks.no fun a18 d18 G18 s18 n18 e18 f18 => ?_⟩
    refine fun a19 n19 => ?_
    have s19 : Same G18 (upd G18 a19 (ExO (.ref T.c_TooLarge) a19)) := same_new n19
    have e19 : (upd G18 a19 (ExO (.ref T.c_TooLarge) a19)) a19 = some (ExO (.ref T.c_TooLarge) a19) := upd_same
    generalize upd G18 a19 (ExO (.ref T.c_TooLarge) a19) = G19 at *
    refine fun a20 n20 => ?_
    have s20 : Same G19 (upd G19 a20 (ExO (.ref T.c_BadPosts) a20)) := same_new n20
    have e20 : (upd G19 a20 (ExO (.ref T.c_BadPosts) a20)) a20 = some (ExO (.ref T.c_BadPosts) a20) := upd_same
    generalize upd G19 a20 (ExO (.ref T.c_BadPosts) a20) = G20 at *
    refine ⟨(by show 7 ≤ sizeLine; decide), fun p4 m4 => ?_⟩
    have t4 : Same G20 (upd G20 p4 (.lst [V.ref a14, V.ref a15, V.ref a16, V.ref a17, V.ref a18, V.ref a19, V.ref a20])) := same_new m4
    have l4 : (upd G20 p4 (.lst [V.ref a14, V.ref a15, V.ref a16, V.ref a17, V.ref a18, V.ref a19, V.ref a20])) p4 = some (.lst [V.ref a14, V.ref a15, V.ref a16, V.ref a17, V.ref a18, V.ref a19, V.ref a20]) := upd_same
    generalize upd G20 p4 (.lst [V.ref a14, V.ref a15, V.ref a16, V.ref a17, V.ref a18, V.ref a19, V.ref a20]) = L4 at *
    refine ⟨_, _, _, _, rfl, rfl, (t4 _ _ (s20 _ _ (s19 _ _ (s18 _ _ (s17 _ _ (s16 _ _ (s15 _ _ (s14 _ _ l3)))))))), l4, (by show 6 + 7 + 7 ≤ sizeLine; decide), fun p5 m5 => ?_⟩
    have t5 : Same L4 (upd L4 p5 (.lst (([V.ref a1, V.ref a2, V.ref a3, V.ref a4, V.ref a5, V.ref a6] ++ [V.ref a7, V.ref a8, V.ref a9, V.ref a10, V.ref a11, V.ref a12, V.ref a13]) ++ [V.ref a14, V.ref a15, V.ref a16, V.ref a17, V.ref a18, V.ref a19, V.ref a20]))) := same_new m5
    have l5 : (upd L4 p5 (.lst (([V.ref a1, V.ref a2, V.ref a3, V.ref a4, V.ref a5, V.ref a6] ++ [V.ref a7, V.ref a8, V.ref a9, V.ref a10, V.ref a11, V.ref a12, V.ref a13]) ++ [V.ref a14, V.ref a15, V.ref a16, V.ref a17, V.ref a18, V.ref a19, V.ref a20]))) p5 = some (.lst (([V.ref a1, V.ref a2, V.ref a3, V.ref a4, V.ref a5, V.ref a6] ++ [V.ref a7, V.ref a8, V.ref a9, V.ref a10, V.ref a11, V.ref a12, V.ref a13]) ++ [V.ref a14, V.ref a15, V.ref a16, V.ref a17, V.ref a18, V.ref a19, V.ref a20])) := upd_same
    generalize upd L4 p5 (.lst (([V.ref a1, V.ref a2, V.ref a3, V.ref a4, V.ref a5, V.ref a6] ++ [V.ref a7, V.ref a8, V.ref a9, V.ref a10, V.ref a11, V.ref a12, V.ref a13]) ++ [V.ref a14, V.ref a15, V.ref a16, V.ref a17, V.ref a18, V.ref a19, V.ref a20])) = L5 at *
    refine ⟨_, rfl, ?_⟩
    refine ⟨_, rfl, mk_val T.x_BadText.T T.x_BadText.no fun a21 d21 G21 s21 n21 e21 f21 => ?_⟩
    refine fun a22 n22 => ?_
    have s22 : Same G21 (upd G21 a22 (ExO (.ref T.c_NoLine) a22)) := same_new n22
    have e22 : (upd G21 a22 (ExO (.ref T.c_NoLine) a22)) a22 = some (ExO (.ref T.c_NoLine) a22) := upd_same
    generalize upd G21 a22 (ExO (.ref T.c_NoLine) a22) = G22 at *
    refine ⟨_, rfl, mk_val T.x_NoName.T T.x_NoName.no fun a23 d23 G23 s23 n23 e23 f23 => ?_⟩
    refine fun a24 n24 => ?_
    have s24 : Same G23 (upd G23 a24 (ExO (.ref T.c_NoMatch) a24)) := same_new n24
    have e24 : (upd G23 a24 (ExO (.ref T.c_NoMatch) a24)) a24 = some (ExO (.ref T.c_NoMatch) a24) := upd_same
    generalize upd G23 a24 (ExO (.ref T.c_NoMatch) a24) = G24 at *
    refine fun a25 n25 => ?_
    have s25 : Same G24 (upd G24 a25 (ExO (.ref T.c_NothingDone) a25)) := same_new n25
    have e25 : (upd G24 a25 (ExO (.ref T.c_NothingDone) a25)) a25 = some (ExO (.ref T.c_NothingDone) a25) := upd_same
    generalize upd G24 a25 (ExO (.ref T.c_NothingDone) a25) = G25 at *
    refine ⟨(by show 5 ≤ sizeLine; decide), fun p6 m6 => ?_⟩
    have t6 : Same G25 (upd G25 p6 (.lst [V.ref a21, V.ref a22, V.ref a23, V.ref a24, V.ref a25])) := same_new m6
    have l6 : (upd G25 p6 (.lst [V.ref a21, V.ref a22, V.ref a23, V.ref a24, V.ref a25])) p6 = some (.lst [V.ref a21, V.ref a22, V.ref a23, V.ref a24, V.ref a25]) := upd_same
    generalize upd G25 p6 (.lst [V.ref a21, V.ref a22, V.ref a23, V.ref a24, V.ref a25]) = L6 at *
    refine ⟨_, _, _, _, rfl, rfl, (t6 _ _ (s25 _ _ (s24 _ _ (s23 _ _ (s22 _ _ (s21 _ _ l5)))))), l6, (by show 6 + 7 + 7 + 5 ≤ sizeLine; decide), fun p7 m7 => ?_⟩
    have t7 : Same L6 (upd L6 p7 (.lst ((([V.ref a1, V.ref a2, V.ref a3, V.ref a4, V.ref a5, V.ref a6] ++ [V.ref a7, V.ref a8, V.ref a9, V.ref a10, V.ref a11, V.ref a12, V.ref a13]) ++ [V.ref a14, V.ref a15, V.ref a16, V.ref a17, V.ref a18, V.ref a19, V.ref a20]) ++ [V.ref a21, V.ref a22, V.ref a23, V.ref a24, V.ref a25]))) := same_new m7
    have l7 : (upd L6 p7 (.lst ((([V.ref a1, V.ref a2, V.ref a3, V.ref a4, V.ref a5, V.ref a6] ++ [V.ref a7, V.ref a8, V.ref a9, V.ref a10, V.ref a11, V.ref a12, V.ref a13]) ++ [V.ref a14, V.ref a15, V.ref a16, V.ref a17, V.ref a18, V.ref a19, V.ref a20]) ++ [V.ref a21, V.ref a22, V.ref a23, V.ref a24, V.ref a25]))) p7 = some (.lst ((([V.ref a1, V.ref a2, V.ref a3, V.ref a4, V.ref a5, V.ref a6] ++ [V.ref a7, V.ref a8, V.ref a9, V.ref a10, V.ref a11, V.ref a12, V.ref a13]) ++ [V.ref a14, V.ref a15, V.ref a16, V.ref a17, V.ref a18, V.ref a19, V.ref a20]) ++ [V.ref a21, V.ref a22, V.ref a23, V.ref a24, V.ref a25])) := upd_same
    generalize upd L6 p7 (.lst ((([V.ref a1, V.ref a2, V.ref a3, V.ref a4, V.ref a5, V.ref a6] ++ [V.ref a7, V.ref a8, V.ref a9, V.ref a10, V.ref a11, V.ref a12, V.ref a13]) ++ [V.ref a14, V.ref a15, V.ref a16, V.ref a17, V.ref a18, V.ref a19, V.ref a20]) ++ [V.ref a21, V.ref a22, V.ref a23, V.ref a24, V.ref a25])) = L7 at *
    have u31 : Same L6 L7 := t7
    have u30 : Same G25 L7 := t6.trans u31
    have u29 : Same G24 L7 := s25.trans u30
    have u28 : Same G23 L7 := s24.trans u29
    have u27 : Same G22 L7 := s23.trans u28
    have u26 : Same G21 L7 := s22.trans u27
    have u25 : Same L5 L7 := s21.trans u26
    have u24 : Same L4 L7 := t5.trans u25
    have u23 : Same G20 L7 := t4.trans u24
    have u22 : Same G19 L7 := s20.trans u23
    have u21 : Same G18 L7 := s19.trans u22
    have u20 : Same G17 L7 := s18.trans u21
    have u19 : Same G16 L7 := s17.trans u20
    have u18 : Same G15 L7 := s16.trans u19
    have u17 : Same G14 L7 := s15.trans u18
    have u16 : Same L3 L7 := s14.trans u17
    have u15 : Same L2 L7 := t3.trans u16
    have u14 : Same G13 L7 := t2.trans u15
    have u13 : Same G12 L7 := s13.trans u14
    have u12 : Same G11 L7 := s12.trans u13
    have u11 : Same G10 L7 := s11.trans u12
    have u10 : Same G9 L7 := s10.trans u11
    have u9 : Same G8 L7 := s9.trans u10
    have u8 : Same G7 L7 := s8.trans u9
    have u7 : Same L1 L7 := s7.trans u8
    have u6 : Same G6 L7 := t1.trans u7
    have u5 : Same G5 L7 := s6.trans u6
    have u4 : Same G4 L7 := s5.trans u5
    have u3 : Same G3 L7 := s4.trans u4
    have u2 : Same G2 L7 := s3.trans u3
    have u1 : Same G1 L7 := s2.trans u2
    have u0 : Same H L7 := s1.trans u1
    have u32 : Same L7 L7 := Same.refl _
    exact k _ _ [a1, a2, a3, a4, a5, a6, a7, a8, a9, a10, a11, a12, a13, a14, a15, a16, a17, a18, a19, a20, a21, a22, a23, a24, a25] u0 l7 (.cons ((ErrAt.kept e1 f1).keep u1) (.cons ((ErrAt.kept e2 f2).keep u2) (.cons ((ErrAt.kept e3 f3).keep u3) (.cons ((ErrAt.bare e4).keep u4) (.cons ((ErrAt.kept e5 f5).keep u5) (.cons ((ErrAt.kept e6 f6).keep u6) (.cons ((ErrAt.bare e7).keep u8) (.cons ((ErrAt.bare e8).keep u9) (.cons ((ErrAt.bare e9).keep u10) (.cons ((ErrAt.bare e10).keep u11) (.cons ((ErrAt.kept e11 f11).keep u12) (.cons ((ErrAt.kept e12 f12).keep u13) (.cons ((ErrAt.bare e13).keep u14) (.cons ((ErrAt.bare e14).keep u17) (.cons ((ErrAt.bare e15).keep u18) (.cons ((ErrAt.bare e16).keep u19) (.cons ((ErrAt.bare e17).keep u20) (.cons ((ErrAt.kept e18 f18).keep u21) (.cons ((ErrAt.bare e19).keep u22) (.cons ((ErrAt.bare e20).keep u23) (.cons ((ErrAt.kept e21 f21).keep u26) (.cons ((ErrAt.bare e22).keep u27) (.cons ((ErrAt.kept e23 f23).keep u28) (.cons ((ErrAt.bare e24).keep u29) (.cons ((ErrAt.bare e25).keep u30) .nil)))))))))))))))))))))))))
theorem ok__law_fields (T : Top K mg) : Ok P w K mg base 3 "_law_fields" ["thing"] spFields := by
  refine ok_of T.d__law_fields sc__law_fields (fun vs H Q E h => ?_) (fun f cdv A outer s H vs Q E hr h => ?_)
  · obtain ⟨v, rfl, _⟩ := h
    rfl
  · obtain ⟨v, rfl, k⟩ := h
    obtain ⟨f_BadSystem, fd_BadSystem, i_BadSystem, t_BadSystem, b_BadSystem, G_BadSystem⟩ := ok_BadSystemZ_initZ (P := P) (w := w) (base := base) T
    have hr_BadSystem : Room 2 _ := hr.mono (by decide)
    obtain ⟨f_NoPost, fd_NoPost, i_NoPost, t_NoPost, b_NoPost, G_NoPost⟩ := ok_NoPostZ_initZ (P := P) (w := w) (base := base) T
    have hr_NoPost : Room 2 _ := hr.mono (by decide)
    obtain ⟨f_NoRequest, fd_NoRequest, i_NoRequest, t_NoRequest, b_NoRequest, G_NoRequest⟩ := ok_NoRequestZ_initZ (P := P) (w := w) (base := base) T
    have hr_NoRequest : Room 2 _ := hr.mono (by decide)
    obtain ⟨f_Unsuited, fd_Unsuited, i_Unsuited, t_Unsuited, b_Unsuited, G_Unsuited⟩ := ok_UnsuitedZ_initZ (P := P) (w := w) (base := base) T
    have hr_Unsuited : Room 2 _ := hr.mono (by decide)
    obtain ⟨f_BadRow, fd_BadRow, i_BadRow, t_BadRow, b_BadRow, G_BadRow⟩ := ok_BadRowZ_initZ (P := P) (w := w) (base := base) T
    have hr_BadRow : Room 2 _ := hr.mono (by decide)
    obtain ⟨f_BadPost, fd_BadPost, i_BadPost, t_BadPost, b_BadPost, G_BadPost⟩ := ok_BadPostZ_initZ (P := P) (w := w) (base := base) T
    have hr_BadPost : Room 2 _ := hr.mono (by decide)
    obtain ⟨f_TooMany, fd_TooMany, i_TooMany, t_TooMany, b_TooMany, G_TooMany⟩ := ok_TooManyZ_initZ (P := P) (w := w) (base := base) T
    have hr_TooMany : Room 2 _ := hr.mono (by decide)
    obtain ⟨f_BadAsks, fd_BadAsks, i_BadAsks, t_BadAsks, b_BadAsks, G_BadAsks⟩ := ok_BadAsksZ_initZ (P := P) (w := w) (base := base) T
    have hr_BadAsks : Room 2 _ := hr.mono (by decide)
    obtain ⟨f_BadText, fd_BadText, i_BadText, t_BadText, b_BadText, G_BadText⟩ := ok_BadTextZ_initZ (P := P) (w := w) (base := base) T
    have hr_BadText : Room 2 _ := hr.mono (by decide)
    obtain ⟨f_NoName, fd_NoName, i_NoName, t_NoName, b_NoName, G_NoName⟩ := ok_NoNameZ_initZ (P := P) (w := w) (base := base) T
    have hr_NoName : Room 2 _ := hr.mono (by decide)
    refine ⟨_, (pss_cons (ps_set (i := 1) sc__law_fields.nd rfl (Or.inl rfl) (pe_lst (pa_cons (pe_xv (pe_mkV T.x_BadSystem.T i_BadSystem t_BadSystem G_BadSystem hr_BadSystem b_BadSystem pass0 (by rfl) T.x_BadSystem.mg (pa_cons (pv 0) pa_nil))) (pa_cons (pe_xv (pe_mkV T.x_NoPost.T i_NoPost t_NoPost G_NoPost hr_NoPost b_NoPost pass0 (by rfl) T.x_NoPost.mg (pa_cons (pv 0) pa_nil))) (pa_cons (pe_xv (pe_mkV T.x_NoRequest.T i_NoRequest t_NoRequest G_NoRequest hr_NoRequest b_NoRequest pass0 (by rfl) T.x_NoRequest.mg (pa_cons (pv 0) pa_nil))) (pa_cons (pe_xv (pe_mkV T.x_Unsuited.T i_Unsuited t_Unsuited G_Unsuited hr_Unsuited b_Unsuited pass0 (by rfl) T.x_Unsuited.mg (pa_cons (pv 0) pa_nil))) pa_nil))))))
      (pss_cons (ps_set (i := 1) sc__law_fields.nd rfl (Or.inl rfl) (pe_op op_cat (pv 1) (pe_lst (pa_cons (pe_xv (pe_mkV T.x_BadRow.T i_BadRow t_BadRow G_BadRow hr_BadRow b_BadRow pass0 (by rfl) T.x_BadRow.mg (pa_cons (pv 0) pa_nil))) (pa_cons (pe_xv (pe_mkV T.x_BadPost.T i_BadPost t_BadPost G_BadPost hr_BadPost b_BadPost pass0 (by rfl) T.x_BadPost.mg (pa_cons (pv 0) pa_nil))) (pa_cons (pe_xv (pe_mkV T.x_TooMany.T i_TooMany t_TooMany G_TooMany hr_TooMany b_TooMany pass0 (by rfl) T.x_TooMany.mg (pa_cons (pv 0) pa_nil))) (pa_cons (pe_xv (pe_mkV T.x_BadAsks.T i_BadAsks t_BadAsks G_BadAsks hr_BadAsks b_BadAsks pass0 (by rfl) T.x_BadAsks.mg (pa_cons (pv 0) pa_nil))) pa_nil)))))))
      (pss_one (ps_ret (pe_op op_cat (pv 1) (pe_lst (pa_cons (pe_xv (pe_mkV T.x_BadText.T i_BadText t_BadText G_BadText hr_BadText b_BadText pass0 (by rfl) T.x_BadText.mg (pa_cons (pv 0) pa_nil))) (pa_cons (pe_xv (pe_mkV T.x_NoName.T i_NoName t_NoName G_NoName hr_NoName b_NoName pass0 (by rfl) T.x_NoName.mg (pa_cons (pv 0) pa_nil))) pa_nil)))))))), ?_⟩
    refine ⟨_, rfl, mk_val T.x_BadSystem.T T.x_BadSystem.no fun a1 d1 G1 s1 n1 e1 f1 => ⟨_, _, _, _, _, rfl, e1, f1, T.x_BadSystem.X, T.x_BadSystem.no, rfl, ?_⟩⟩
    refine ⟨_, rfl, mk_val T.x_NoPost.T T.x_NoPost.no fun a2 d2 G2 s2 n2 e2 f2 => ⟨_, _, _, _, _, rfl, e2, f2, T.x_NoPost.X, T.x_NoPost.no, rfl, ?_⟩⟩
    refine ⟨_, rfl, mk_val T.x_NoRequest.T T.x_NoRequest.no fun a3 d3 G3 s3 n3 e3 f3 => ⟨_, _, _, _, _, rfl, e3, f3, T.x_NoRequest.X, T.x_NoRequest.no, rfl, ?_⟩⟩
    refine ⟨_, rfl, mk_val T.x_Unsuited.T T.x_Unsuited.no fun a4 d4 G4 s4 n4 e4 f4 => ⟨_, _, _, _, _, rfl, e4, f4, T.x_Unsuited.X, T.x_Unsuited.no, rfl, ?_⟩⟩
    refine ⟨(by show 4 ≤ sizeLine; decide), fun p1 m1 => ?_⟩
    have t1 : Same G4 (upd G4 p1 (.lst [v, v, v, v])) := same_new m1
    have l1 : (upd G4 p1 (.lst [v, v, v, v])) p1 = some (.lst [v, v, v, v]) := upd_same
    generalize upd G4 p1 (.lst [v, v, v, v]) = L1 at *
    refine ⟨_, rfl, ?_⟩
    refine ⟨_, rfl, mk_val T.x_BadRow.T T.x_BadRow.no fun a5 d5 G5 s5 n5 e5 f5 => ⟨_, _, _, _, _, rfl, e5, f5, T.x_BadRow.X, T.x_BadRow.no, rfl, ?_⟩⟩
    refine ⟨_, rfl, mk_val T.x_BadPost.T T.x_BadPost.no fun a6 d6 G6 s6 n6 e6 f6 => ⟨_, _, _, _, _, rfl, e6, f6, T.x_BadPost.X, T.x_BadPost.no, rfl, ?_⟩⟩
    refine ⟨_, rfl, mk_val T.x_TooMany.T T.x_TooMany.no fun a7 d7 G7 s7 n7 e7 f7 => ⟨_, _, _, _, _, rfl, e7, f7, T.x_TooMany.X, T.x_TooMany.no, rfl, ?_⟩⟩
    refine ⟨_, rfl, mk_val T.x_BadAsks.T T.x_BadAsks.no fun a8 d8 G8 s8 n8 e8 f8 => ⟨_, _, _, _, _, rfl, e8, f8, T.x_BadAsks.X, T.x_BadAsks.no, rfl, ?_⟩⟩
    refine ⟨(by show 4 ≤ sizeLine; decide), fun p2 m2 => ?_⟩
    have t2 : Same G8 (upd G8 p2 (.lst [v, v, v, v])) := same_new m2
    have l2 : (upd G8 p2 (.lst [v, v, v, v])) p2 = some (.lst [v, v, v, v]) := upd_same
    generalize upd G8 p2 (.lst [v, v, v, v]) = L2 at *
    refine ⟨_, _, _, _, rfl, rfl, (t2 _ _ (s8 _ _ (s7 _ _ (s6 _ _ (s5 _ _ l1))))), l2, (by show 4 + 4 ≤ sizeLine; decide), fun p3 m3 => ?_⟩
    have t3 : Same L2 (upd L2 p3 (.lst ([v, v, v, v] ++ [v, v, v, v]))) := same_new m3
    have l3 : (upd L2 p3 (.lst ([v, v, v, v] ++ [v, v, v, v]))) p3 = some (.lst ([v, v, v, v] ++ [v, v, v, v])) := upd_same
    generalize upd L2 p3 (.lst ([v, v, v, v] ++ [v, v, v, v])) = L3 at *
    refine ⟨_, rfl, ?_⟩
    refine ⟨_, rfl, mk_val T.x_BadText.T T.x_BadText.no fun a9 d9 G9 s9 n9 e9 f9 => ⟨_, _, _, _, _, rfl, e9, f9, T.x_BadText.X, T.x_BadText.no, rfl, ?_⟩⟩
    refine ⟨_, rfl, mk_val T.x_NoName.T T.x_NoName.no fun a10 d10 G10 s10 n10 e10 f10 => ⟨_, _, _, _, _, rfl, e10, f10, T.x_NoName.X, T.x_NoName.no, rfl, ?_⟩⟩
    refine ⟨(by show 2 ≤ sizeLine; decide), fun p4 m4 => ?_⟩
    have t4 : Same G10 (upd G10 p4 (.lst [v, v])) := same_new m4
    have l4 : (upd G10 p4 (.lst [v, v])) p4 = some (.lst [v, v]) := upd_same
    generalize upd G10 p4 (.lst [v, v]) = L4 at *
    refine ⟨_, _, _, _, rfl, rfl, (t4 _ _ (s10 _ _ (s9 _ _ l3))), l4, (by show 4 + 4 + 2 ≤ sizeLine; decide), fun p5 m5 => ?_⟩
    have t5 : Same L4 (upd L4 p5 (.lst (([v, v, v, v] ++ [v, v, v, v]) ++ [v, v]))) := same_new m5
    have l5 : (upd L4 p5 (.lst (([v, v, v, v] ++ [v, v, v, v]) ++ [v, v]))) p5 = some (.lst (([v, v, v, v] ++ [v, v, v, v]) ++ [v, v])) := upd_same
    generalize upd L4 p5 (.lst (([v, v, v, v] ++ [v, v, v, v]) ++ [v, v])) = L5 at *
    have u14 : Same L4 L5 := t5
    have u13 : Same G10 L5 := t4.trans u14
    have u12 : Same G9 L5 := s10.trans u13
    have u11 : Same L3 L5 := s9.trans u12
    have u10 : Same L2 L5 := t3.trans u11
    have u9 : Same G8 L5 := t2.trans u10
    have u8 : Same G7 L5 := s8.trans u9
    have u7 : Same G6 L5 := s7.trans u8
    have u6 : Same G5 L5 := s6.trans u7
    have u5 : Same L1 L5 := s5.trans u6
    have u4 : Same G4 L5 := t1.trans u5
    have u3 : Same G3 L5 := s4.trans u4
    have u2 : Same G2 L5 := s3.trans u3
    have u1 : Same G1 L5 := s2.trans u2
    have u0 : Same H L5 := s1.trans u1
    exact k _ _ u0 l5
theorem ok__law_caught (T : Top K mg) : Ok P w K mg base 3 "_law_caught" ["thing"] spCaught := by
  refine ok_of T.d__law_caught sc__law_caught (fun vs H Q E h => ?_) (fun f cdv A outer s H vs Q E hr h => ?_)
  · obtain ⟨v, rfl, _⟩ := h
    rfl
  · obtain ⟨v, rfl, k⟩ := h
    obtain ⟨f_NoPost, fd_NoPost, i_NoPost, t_NoPost, b_NoPost, G_NoPost⟩ := ok_NoPostZ_initZ (P := P) (w := w) (base := base) T
    have hr_NoPost : Room 2 _ := hr.mono (by decide)
    refine ⟨_, (pss_cons (ps_set (i := 1) sc__law_caught.nd rfl (Or.inl rfl) pe_non)
      (pss_cons (ps_try_manyA rfl rfl sc__law_caught.nd takes0 (fun W pn xe tk _ => (pss_one (ps_raise rfl tk (pmk_oex T.x_NoPost.T i_NoPost t_NoPost G_NoPost hr_NoPost b_NoPost .nil pass0 (by rfl) T.x_NoPost.mg (pa_cons (pv 0) pa_nil))))) (HdsA.consA (i := 2) rfl rfl ⟨rfl, by decide, Or.inl T.mg_HintError⟩ (fun a oe cls d pn hz hf => (pss_one (ps_set (i := 1) sc__law_caught.nd rfl (Or.inl rfl) (pe_lst (pa_cons (pe_xf T.x_NoPost.X T.x_NoPost.no hz hf (pv 2)) pa_nil))))) HdsA.nil))
      (pss_one (ps_ret (pv 1))))), ?_⟩
    refine ⟨_, rfl, (by show 1 ≤ 1000; decide), fun a0 n0 => ⟨a0, T.c_NoPost, v, rfl, T.x_NoPost.T, T.x_NoPost.no, upd_same, fun d nd ne => ⟨rfl, d, _, upd_same, by rw [upd_ne ne]; exact upd_same, by rw [upd_ne ne] at nd; exact nd, ?_⟩⟩⟩
    have s1 : Same H (raisedHp H a0 d T.c_NoPost [("post", v)]) := raised_same n0 nd ne
    have e : (raisedHp H a0 d T.c_NoPost [("post", v)]) d = some (.xd [("post", v)]) := upd_same
    unfold raisedHp at s1 e
    refine ⟨true, T.e_NoPost_HintError, fun _ a na => ?_, fun q => nomatch q⟩
    refine ⟨_, rfl, rfl, rfl, d, _, v, rfl, e, rfl, ?_⟩
    refine ⟨(by show 1 ≤ sizeLine; decide), fun p m => ?_⟩
    exact ⟨_, rfl, k _ _ (s1.trans (same_new m)) upd_same⟩
end
end Toy

namespace Toy
open PySem PySem.Spec PyProof.Rows L2
local macro_rules | `(tactic| walk_at "hp") => `(tactic| first
  | assumption
  | exact upd_same
  | (refine Eq.trans (upd_ne (by first | assumption | (apply Ne.symm; assumption))) ?_; walk_at "hp"))
local macro_rules | `(tactic| walk_at "side") => `(tactic| first
  | exact .inl ⟨by omega, by omega⟩
  | exact .inr ⟨by omega, by omega⟩
  | exact ⟨by omega, by omega⟩
  | (show _ ≤ _; omega)
  | (show (_ : Int) < _; omega)
  | decide
  | assumption)
local macro_rules | `(tactic| walk_at "r") => `(tactic| first
  | refine ⟨_, rfl, ?_⟩
  | refine ⟨_, _, rfl, rfl, ?_⟩
  | refine ⟨_, _, _, _, rfl, rfl, SqL.of (by walk_at "hp"), rfl, ?_⟩
  | refine ⟨_, _, _, _, rfl, rfl, SqT.of (by walk_at "hp"), rfl, ?_⟩
  | refine ⟨_, _, _, _, rfl, rfl, (by walk_at "hp"), rfl, ?_⟩
  | refine And.intro rfl ?_
  | refine ⟨_, _, rfl, SqT.of (by walk_at "hp"), ?_⟩
  | refine ⟨_, _, rfl, SqL.of (by walk_at "hp"), ?_⟩
  | refine .inl ⟨_, rfl, ?_⟩
  | refine ⟨_, _, rfl, .inl (SqL.of (by walk_at "hp")), ?_⟩
  | refine ⟨_, _, rfl, .inr (SqT.of (by walk_at "hp")), ?_⟩
  | refine ⟨_, _, rfl, .inl ⟨SqL.of (by walk_at "hp"), ?_⟩⟩
  | refine And.intro (.inl ⟨rfl, _, SqL.of (by walk_at "hp")⟩) ?_
  | refine ⟨_, _, _, rfl, rfl, (by walk_at "hp"), ?_⟩
  | refine ⟨_, _, rfl, (by walk_at "hp"), ?_⟩
  | refine And.intro (by walk_at "side") ?_)
local macro_rules | `(tactic| walk_at "rr") => `(tactic| (repeat walk_at "r"))
local macro_rules | `(tactic| walk_at "k") => `(tactic| first
  | refine ite2 (fun _ => ?_) (fun g => absurd rfl g)
  | refine ite2 (fun g => absurd g (by decide)) (fun _ => ?_)
  | refine ite2 (fun _ => ?_) (fun g => absurd (decide_eq_true (by omega)) g)
  | refine ite2 (fun g => absurd (of_decide_eq_true g) (by omega)) (fun _ => ?_)
  | refine ite2 (fun g => (nd_t g (by omega)).elim) (fun _ => ?_)
  | refine ite2 (fun _ => ?_) (fun g => absurd (nd_f g) (by omega)))
local macro_rules | `(tactic| walk_at "rk") => `(tactic| (repeat (first | walk_at "r" | walk_at "k")))
/-- a thing that is compared with itself, of a built-in kind -/
structure Thing (H : Hp) (v : V) : Prop where
  ty : ∃ n, tyN H v = some n
  me : scal v v = true ∨ ∃ a, v = .ref a ∧ ((∃ xs, H a = some (.lst xs)) ∨ (∃ xs, H a = some (.tup xs)) ∨ ∃ kvs, H a = some (.dK kvs) ∧ (kvs.map (·.1)).Nodup)
theorem Thing.same {H G : Hp} {v : V} (t : Thing H v) (k : Same H G) : Thing G v := by
  obtain ⟨⟨n, hn⟩, m⟩ := t
  refine ⟨⟨n, tyN_keep k hn⟩, ?_⟩
  rcases m with m | ⟨a, e, ⟨xs, h⟩ | ⟨xs, h⟩ | ⟨kvs, h, nd⟩⟩
  · exact .inl m
  · exact .inr ⟨a, e, .inl ⟨xs, k _ _ h⟩⟩
  · exact .inr ⟨a, e, .inr (.inl ⟨xs, k _ _ h⟩)⟩
  · exact .inr ⟨a, e, .inr (.inr ⟨kvs, k _ _ h, nd⟩)⟩
theorem Thing.selfy {K : PySem.W.Frag} {H : Hp} {v : V} (t : Thing H v) : Selfy K H v := by
  rcases t.me with m | ⟨a, rfl, ⟨xs, h⟩ | ⟨xs, h⟩ | ⟨kvs, h, nd⟩⟩
  · exact .flat m
  · exact .lst (SqL.of h)
  · exact .tup (SqT.of h)
  · exact .dct h nd
theorem OddV.thing {A : Addr → Prop} {H : Hp} {v : V} (o : OddV A H v) : Thing H v := by
  refine ⟨o.dat.ty, ?_⟩
  rcases o with ⟨d, h, _⟩ | ⟨a, kvs, rfl, _, h, nd, _⟩
  · cases h with
    | non => exact .inl rfl
    | bl b => exact .inl rfl
    | int i => exact .inl rfl
    | str z => exact .inl rfl
    | lst a xs ds h1 h2 _ _ => exact .inr ⟨a, rfl, .inl ⟨xs, h2⟩⟩
    | tup a xs ds h1 h2 _ _ => exact .inr ⟨a, rfl, .inr (.inl ⟨xs, h2⟩)⟩
  · exact .inr ⟨a, rfl, .inr (.inr ⟨kvs, h, nd⟩)⟩
theorem odd_keep {H H1 H2 : Hp} {c d : Addr} {v : V} (o : OddV (fun a => H a = none) H1 v) (D : Dice c H d) (k : Keep d H1 H2) : OddV (fun a => H a = none) H2 v :=
  o.mono (fun a ob na ea => k a ob (fun z => by obtain ⟨o', e⟩ := D.some; rw [z, e] at na; cases na) ea) fun a h _ => h
theorem ne_no {x y : V} (h : x = y) (g : (!decide (x = y)) = true) : False := by
  rw [decide_eq_true h] at g
  cases g
def spLaw (K : PySem.W.Frag) : Sp := fun vs H Q _ => ∃ (a : Addr) (ns : List Int), vs = [.ref a] ∧ SqL K H a (ns.map V.int) ∧ ns.length ≤ 63 ∧ ∀ H', Q (.bl true) H'
section
variable {P : Program} {w : World} {K : PySem.W.Frag} {mg : Str → Option Value} {base : Heap}
theorem okf_law (T : Top K mg) {f : Addr} {fd : FuncData} (F : Fun K "law" "law" s_law f fd) : FnOk P w K mg base CX0 4 f fd ["script"] (spLaw K) := by
  refine F.ok sc_law (fun vs H Q E h => ?_) (fun cdv A outer s H vs Q E hr h => ?_)
  · obtain ⟨a, ns, rfl, _⟩ := h
    rfl
  · obtain ⟨a, ns, rfl, hS, hlen, k⟩ := h
    obtain ⟨f__law_dice, fd__law_dice, m__law_dice, k__law_dice, b__law_dice, G__law_dice⟩ := ok__law_dice (P := P) (w := w) (base := base) T
    have hr__law_dice : Room 1 _ := hr.mono (by decide)
    obtain ⟨f__law_odd, fd__law_odd, m__law_odd, k__law_odd, b__law_odd, G__law_odd⟩ := ok__law_odd (P := P) (w := w) (base := base) T
    have hr__law_odd : Room 2 _ := hr.mono (by decide)
    obtain ⟨f__law_word, fd__law_word, m__law_word, k__law_word, b__law_word, G__law_word⟩ := ok__law_word (P := P) (w := w) (base := base) T
    have hr__law_word : Room 2 _ := hr.mono (by decide)
    obtain ⟨f__law_draw, fd__law_draw, m__law_draw, k__law_draw, b__law_draw, G__law_draw⟩ := ok__law_draw (P := P) (w := w) (base := base) T
    have hr__law_draw : Room 1 _ := hr.mono (by decide)
    obtain ⟨f__law_errors, fd__law_errors, m__law_errors, k__law_errors, b__law_errors, G__law_errors⟩ := ok__law_errors (P := P) (w := w) (base := base) T
    have hr__law_errors : Room 3 _ := hr.mono (by decide)
    obtain ⟨f__law_alone, fd__law_alone, m__law_alone, k__law_alone, b__law_alone, G__law_alone⟩ := ok__law_alone (P := P) (w := w) (base := base) T
    have hr__law_alone : Room 2 _ := hr.mono (by decide)
    obtain ⟨f__law_fields, fd__law_fields, m__law_fields, k__law_fields, b__law_fields, G__law_fields⟩ := ok__law_fields (P := P) (w := w) (base := base) T
    have hr__law_fields : Room 3 _ := hr.mono (by decide)
    obtain ⟨f__law_caught, fd__law_caught, m__law_caught, k__law_caught, b__law_caught, G__law_caught⟩ := ok__law_caught (P := P) (w := w) (base := base) T
    have hr__law_caught : Room 3 _ := hr.mono (by decide)
    have hu64 := hr.units
    refine ⟨_, (pss_cons (ps_set (i := 1) sc_law.nd rfl (Or.inl rfl) (pe_call G__law_dice hr__law_dice rfl m__law_dice k__law_dice b__law_dice .nil pass0 (pa_cons (pv 0) pa_nil)))
      (pss_cons (ps_set (i := 2) sc_law.nd rfl (Or.inl rfl) (pe_ix ix_list (pe_lst (pa_cons (pe_call G__law_odd hr__law_odd rfl m__law_odd k__law_odd b__law_odd .nil pass0 (pa_cons (pv 1) pa_nil)) (pa_cons (pe_call G__law_word hr__law_word rfl m__law_word k__law_word b__law_word .nil pass0 (pa_cons (pv 1) (pa_cons pe_int pa_nil))) (pa_cons (pe_call G__law_draw hr__law_draw rfl m__law_draw k__law_draw b__law_draw .nil pass0 (pa_cons (pv 1) (pa_cons (pe_op op_pow pe_int pe_int) pa_nil))) (pa_cons (pe_lst (pa_cons (pe_call G__law_odd hr__law_odd rfl m__law_odd k__law_odd b__law_odd .nil pass0 (pa_cons (pv 1) pa_nil)) pa_nil)) pa_nil))))) (pe_call G__law_draw hr__law_draw rfl m__law_draw k__law_draw b__law_draw .nil pass0 (pa_cons (pv 1) (pa_cons pe_int pa_nil))) (fun _ _ => rfl)))
      (pss_cons (ps_set (i := 3) sc_law.nd rfl (Or.inl rfl) (pe_call G__law_errors hr__law_errors rfl m__law_errors k__law_errors b__law_errors .nil pass0 (pa_cons (pv 2) pa_nil)))
      (pss_cons (ps_for PassesOwn.never rfl (pi_range1 (by rfl) T.b_range (pa_cons (pe_callB (id := "len") call_len_seq (by rfl) T.b_len (by decide +kernel) (pa_cons (pv 3) pa_nil)) pa_nil)) (pg_name (i := 4) sc_law.nd rfl (Or.inl rfl))
      (pss_one (ps_if (pt_not (pt_val (pe_call G__law_alone hr__law_alone rfl m__law_alone k__law_alone b__law_alone .nil pass0 (pa_cons (pe_ix ix_list (pv 3) (pv 4) (fun _ _ => rfl)) (pa_cons (pv 4) pa_nil)))))
      (pss_one (ps_ret pe_bl))
      pss_nil)))
      (pss_cons (ps_for PassesOwn.never rfl (pi_list (pe_call G__law_fields hr__law_fields rfl m__law_fields k__law_fields b__law_fields .nil pass0 (pa_cons (pv 2) pa_nil))) (pg_name (i := 5) sc_law.nd rfl (Or.inl rfl))
      (pss_one (ps_if (PW.pt (pw_or (pt_cmpR op_ne (pe_callB (id := "isinstance") (call_isN (T := "bool")) (by rfl) T.b_isinstance (by decide +kernel) (pa_cons (pv 5) (pa_cons (pe_bltn (v := .ty "bool") (u := .type "bool") (by rfl) T.b_bool (by decide +kernel) rfl) pa_nil))) (pe_callB (id := "isinstance") (call_isN (T := "bool")) (by rfl) T.b_isinstance (by decide +kernel) (pa_cons (pv 2) (pa_cons (pe_bltn (v := .ty "bool") (u := .type "bool") (by rfl) T.b_bool (by decide +kernel) rfl) pa_nil))) (nomark _)) (pw_or1 (pt_cmpR (op_neS hu64) (pv 5) (pv 2) (nomark _)))))
      (pss_one (ps_ret pe_bl))
      pss_nil)))
      (pss_cons (ps_set (i := 6) sc_law.nd rfl (Or.inl rfl) (pe_call G__law_caught hr__law_caught rfl m__law_caught k__law_caught b__law_caught .nil pass0 (pa_cons (pv 2) pa_nil)))
      (pss_one (ps_ret (pe_and (pe_cmpR op_notN (pv 6) pe_non (nomark _)) (pe_one (pe_cmpR (op_eqS hu64) (pe_ix ix_list (pv 6) pe_int (fun _ _ => rfl)) (pv 2) (nomark _)))))))))))), ?_⟩
    refine ⟨_, rfl, a, ns, rfl, hS, hlen, fun d c H1 s1 nd nc D1 => ?_⟩
    refine ⟨_, rfl, d, c, rfl, D1, fun v1 H2 o2 k2 D2 => ?_⟩
    refine ⟨_, rfl, d, c, _, rfl, D2, by omega, by omega, fun z H3 hz k3 D3 => ?_⟩
    refine ⟨_, rfl, ?_⟩
    walk_at "rr"
    refine ⟨d, c, 10 ^ 29, rfl, D3, by decide, by decide, fun n4 H4 a4 b4 k4 D4 => ?_⟩
    refine ⟨_, rfl, d, c, rfl, D4, fun v5 H5 o5 k5 D5 => ?_⟩
    refine ⟨(by show 1 ≤ sizeLine; decide), fun l6 m6 => ?_⟩
    have s6 : Same H5 (upd H5 l6 (.lst [v5])) := same_new m6
    have e6 : (upd H5 l6 (.lst [v5])) l6 = some (.lst [v5]) := upd_same
    have D6 := D5.same s6
    have n6 := D5.ne m6
    generalize upd H5 l6 (.lst [v5]) = H6 at *
    refine ⟨(by show 4 ≤ sizeLine; decide), fun l7 m7 => ?_⟩
    have s7 : Same H6 (upd H6 l7 (.lst [v1, .str z, .int n4, .ref l6])) := same_new m7
    have e7 : (upd H6 l7 (.lst [v1, .str z, .int n4, .ref l6])) l7 = some (.lst [v1, .str z, .int n4, .ref l6]) := upd_same
    have D7 := D6.same s7
    have n7 := D6.ne m7
    generalize upd H6 l7 (.lst [v1, .str z, .int n4, .ref l6]) = H7 at *
    refine ⟨_, rfl, d, c, _, rfl, D7, by omega, by omega, fun i8 H8 a8 b8 k8 D8 => ?_⟩
    have k28 : Keep d H2 H8 := ((((k3.trans k4).trans k5).same s6).same s7).trans k8
    have k68 : Keep d H6 H8 := (same_keep s7).trans k8
    have things : ∀ x ∈ [v1, .str z, .int n4, V.ref l6], Thing H8 x := by
      intro x hx
      simp only [List.mem_cons, List.not_mem_nil, or_false] at hx
      rcases hx with rfl | rfl | rfl | rfl
      · exact (odd_keep o2 D1 k28).thing
      · exact ⟨⟨_, rfl⟩, .inl rfl⟩
      · exact ⟨⟨_, rfl⟩, .inl rfl⟩
      · have e8 := k68 _ _ n6 e6
        exact ⟨⟨"list", by unfold tyN; simp only [e8]⟩, .inr ⟨l6, rfl, .inl ⟨_, e8⟩⟩⟩
    obtain ⟨v, hv⟩ : ∃ v, ([v1, .str z, .int n4, V.ref l6] : List V)[i8.toNat]? = some v := ⟨_, List.getElem?_eq_getElem (by show i8.toNat < 4; omega)⟩
    have tv := things v (List.mem_of_getElem? hv)
    refine ⟨l7, _, i8, v, rfl, rfl, SqL.of (k8 _ _ n7 e7), by have := atI_nat hv; rwa [Int.toNat_of_nonneg a8] at this, ?_⟩
    refine ⟨_, rfl, v, rfl, fun p9 H9 es s9 e9 r9 => ?_⟩
    have len9 : es.length = 25 := prd_len r9
    refine ⟨_, rfl, _, _, rfl, .inl (SqL.of e9), ?_⟩
    rw [List.length_map, len9]
    refine ⟨_, rfl, by decide, by decide, ?_⟩
    refine for_range (lo := 0) (n := 25) (fun j σ' H' => Same H9 H' ∧ ∃ o, σ' = [some (.ref a), some (.ref d), some v, some (.ref p9), o, none, none]) ⟨Same.refl _, _, rfl⟩ ?_ ?_
    · rintro j σ' H' hj ⟨sj, o, rfl⟩
      rw [Int.zero_add]
      obtain ⟨e, he⟩ : ∃ e, es[j]? = some e := ⟨_, List.getElem?_eq_getElem (by omega)⟩
      obtain ⟨C, hC, at_⟩ := prd_at1 r9 he
      have he2 : atI (es.map V.ref) ((j : Nat) : Int) = some (.ref e) := atI_nat (by rw [List.getElem?_map, he]; rfl)
      refine ⟨_, rfl, _, rfl, p9, _, _, _, rfl, rfl, SqL.of (sj _ _ e9), he2, _, rfl, e, C, j, rfl, hC, at_.keep sj, fun G sG => ?_⟩
      refine ⟨_, rfl, ?_⟩
      exact ite2 (fun g => nomatch g) (fun _ => ⟨sj.trans sG, _, rfl⟩)
    · rintro σ' H' ⟨sj, o, rfl⟩
      have t10 := tv.same (s9.trans sj)
      generalize hH : H' = H10 at *
      refine ⟨_, rfl, v, rfl, fun p11 H11 s11 e11 => ?_⟩
      refine ⟨p11, rfl, ⟨_, SqL.of e11⟩, ?_⟩
      refine for_list (K := K) (a := p11) (xs := List.replicate 10 v) (fun j σ' G => Same H11 G ∧ ∃ o2, σ' = [some (.ref a), some (.ref d), some v, some (.ref p9), o, o2, none]) ⟨Same.refl _, _, rfl⟩ (fun j σ' G _ ⟨sG, _⟩ => SqL.of (sG _ _ e11)) ?_ ?_
      · rintro j x σ' G hj ⟨sG, o2, rfl⟩
        have hx : x = v := (List.mem_replicate.mp (List.mem_of_getElem? hj)).2
        subst hx
        have tG := t10.same (s11.trans sG)
        obtain ⟨n, hn⟩ := tG.ty
        refine ⟨_, rfl, x, n, _, rfl, hn, kit7 hn (T := "bool") (by simp), _, rfl, x, n, _, rfl, hn, kit7 hn (T := "bool") (by simp), rfl, _, rfl, ?_⟩
        refine ite2 (fun g => (ne_no rfl g).elim) (fun _ => ?_)
        refine ⟨_, rfl, _, rfl, rfl, tG.selfy, _, rfl, ?_⟩
        exact ite2 (fun g => nomatch g) (fun _ => ⟨sG, _, rfl⟩)
      · rintro σ' G ⟨sG, o2, rfl⟩
        have tG := t10.same (s11.trans sG)
        refine ⟨_, rfl, v, rfl, fun p12 H12 s12 e12 => ?_⟩
        refine ⟨_, rfl, rfl, _, rfl, ?_⟩
        refine ite2 (fun _ => ?_) (fun g => absurd rfl g)
        exact ⟨_, rfl, p12, [v], 0, v, rfl, rfl, SqL.of e12, rfl, _, rfl, rfl, (tG.same s12).selfy, k _⟩
end
end Toy

set_option maxHeartbeats 0
namespace Toy
open PySem PySem.Spec PyProof.Rows L2
section
variable {K : PySem.W.Frag} {h : Heap} {mg : Str → Option Value}
theorem fun_of {x qual : Str} {st : Stmt} {f : Addr} {fd : FuncData} (F : FunD K x qual (defArgs st) (defBody st) (defScope st) [] [] f fd) : Fun K x qual st f fd := by
  obtain ⟨oc, od, dV, kV, doc, pm, an, cdv, ct, osl, rfl, lk, hcd, hD, hK⟩ := F.ex
  rcases hD with ⟨_, rfl⟩ | ⟨e, _⟩
  · exact ⟨⟨oc, od, kV, doc, pm, an, cdv, ct, osl, rfl, lk, hcd⟩, F.kp⟩
  · exact absurd rfl e
theorem def_at {x : Str} {st : Stmt} {ps : List Str} (X : K.In h) (G : h.Ns mainGlobals mg) (g : (He.Fa.glo x).ok K = true) (c : ∃ fd, FunD K x x (defArgs st) (defBody st) (defScope st) [] [] (He.ga K x) fd)
    (hb : ∀ (kV doc pm : Value) (an : Option Addr) (cdv ct : Value) (us : List Value), us.length = ps.length → bindArgs (PySem.W.fnOf x x (defArgs st) (defBody st) (defScope st) .none kV doc pm an cdv ct) ⟨us, []⟩ = pure (ps.zip us)) : DefAt K mg x st ps := by
  obtain ⟨fd, F⟩ := c
  exact ⟨_, fd, He.glo_ok X G g, fun_of F, (fun_of F).binds hb⟩
theorem init_at {C qual : Str} {st : Stmt} {ps : List Str} (g : (He.Fa.mkr C).ok K = true) (c : ∃ fd, FunD K "__init__" qual (defArgs st) (defBody st) (defScope st) [] [] (He.ma K (He.ga K C) "__init__") fd)
    (hb : ∀ (kV doc pm : Value) (an : Option Addr) (cdv ct : Value) (us : List Value), us.length = ps.length → bindArgs (PySem.W.fnOf "__init__" qual (defArgs st) (defBody st) (defScope st) .none kV doc pm an cdv ct) ⟨us, []⟩ = pure (ps.zip us)) : ClsInit K (He.ga K C) qual st ps := by
  obtain ⟨fd, F⟩ := c
  exact ⟨_, fd, He.mkr_ok g, fun_of F, (fun_of F).binds hb⟩
theorem meth_at {C m qual : Str} {st : Stmt} {ps : List Str} (g : (He.Fa.meth C m).ok K = true) (c : ∃ fd, FunD K m qual (defArgs st) (defBody st) (defScope st) [] [] (He.ma K (He.ga K C) m) fd)
    (hb : ∀ (kV doc pm : Value) (an : Option Addr) (cdv ct : Value) (us : List Value), us.length = ps.length → bindArgs (PySem.W.fnOf m qual (defArgs st) (defBody st) (defScope st) .none kV doc pm an cdv ct) ⟨us, []⟩ = pure (ps.zip us)) : MethAt K (He.ga K C) m qual st ps := by
  obtain ⟨fd, F⟩ := c
  exact ⟨_, fd, He.meth_ok g, fun_of F, (fun_of F).binds hb⟩
theorem typeFn {a : Addr} (h : PySem.W.isFn K (.ref a) = true) : PySem.W.typeIn K (.ref a) = some (.type "function") := by
  first | exact eq_of_beq h | simpa [PySem.W.isFn] using h
theorem exc_at {x f q : Str} {st : Stmt} (X : K.In h) (G : h.Ns mainGlobals mg) (g : (He.Fa.glo x).ok K = true) (e : oexB K (He.ga K x) = true) (n : (He.Fa.noat x f).ok K = true) (m : (He.Fa.meth x "__init__").ok K = true)
    (c : ∃ fd, FunD K "__init__" q (defArgs st) (defBody st) (defScope st) [] [] (He.ma K (He.ga K x) "__init__") fd)
    (hb : ∀ (kV doc pm : Value) (an : Option Addr) (cdv ct : Value) (us : List Value), us.length = (["self", f] : List Str).length → bindArgs (PySem.W.fnOf "__init__" q (defArgs st) (defBody st) (defScope st) .none kV doc pm an cdv ct) ⟨us, []⟩ = pure ((["self", f] : List Str).zip us)) : ExcAt K mg x (He.ga K x) f st := by
  obtain ⟨fd, F⟩ := c
  have M := He.meth_ok m
  have o := oexB_ok e
  exact ⟨He.glo_ok X G g, o.1, o.2, (He.noat_ok n), ⟨_, fd, q, M.at_, typeFn M.fn, fun_of F, (fun_of F).binds hb⟩⟩
end
/-! the head -/
def hds_BadSystemZ_initZ : He.DefD := ⟨("BadSystem", some "__init__"), "__init__", "BadSystem.__init__", defArgs s_BadSystemZ_initZ, defBody s_BadSystemZ_initZ, defScope s_BadSystemZ_initZ, [], []⟩
def hds_NoPostZ_initZ : He.DefD := ⟨("NoPost", some "__init__"), "__init__", "NoPost.__init__", defArgs s_NoPostZ_initZ, defBody s_NoPostZ_initZ, defScope s_NoPostZ_initZ, [], []⟩
def hds_NoRequestZ_initZ : He.DefD := ⟨("NoRequest", some "__init__"), "__init__", "NoRequest.__init__", defArgs s_NoRequestZ_initZ, defBody s_NoRequestZ_initZ, defScope s_NoRequestZ_initZ, [], []⟩
def hds_UnsuitedZ_initZ : He.DefD := ⟨("Unsuited", some "__init__"), "__init__", "Unsuited.__init__", defArgs s_UnsuitedZ_initZ, defBody s_UnsuitedZ_initZ, defScope s_UnsuitedZ_initZ, [], []⟩
def hds_BadRowZ_initZ : He.DefD := ⟨("BadRow", some "__init__"), "__init__", "BadRow.__init__", defArgs s_BadRowZ_initZ, defBody s_BadRowZ_initZ, defScope s_BadRowZ_initZ, [], []⟩
def hds_BadPostZ_initZ : He.DefD := ⟨("BadPost", some "__init__"), "__init__", "BadPost.__init__", defArgs s_BadPostZ_initZ, defBody s_BadPostZ_initZ, defScope s_BadPostZ_initZ, [], []⟩
def hds_TooManyZ_initZ : He.DefD := ⟨("TooMany", some "__init__"), "__init__", "TooMany.__init__", defArgs s_TooManyZ_initZ, defBody s_TooManyZ_initZ, defScope s_TooManyZ_initZ, [], []⟩
def hds_BadAsksZ_initZ : He.DefD := ⟨("BadAsks", some "__init__"), "__init__", "BadAsks.__init__", defArgs s_BadAsksZ_initZ, defBody s_BadAsksZ_initZ, defScope s_BadAsksZ_initZ, [], []⟩
def hds_BadTextZ_initZ : He.DefD := ⟨("BadText", some "__init__"), "__init__", "BadText.__init__", defArgs s_BadTextZ_initZ, defBody s_BadTextZ_initZ, defScope s_BadTextZ_initZ, [], []⟩
def hds_NoNameZ_initZ : He.DefD := ⟨("NoName", some "__init__"), "__init__", "NoName.__init__", defArgs s_NoNameZ_initZ, defBody s_NoNameZ_initZ, defScope s_NoNameZ_initZ, [], []⟩
def hds__law_dice : He.DefD := ⟨("_law_dice", none), "_law_dice", "_law_dice", defArgs s__law_dice, defBody s__law_dice, defScope s__law_dice, [], []⟩
def hds__law_draw : He.DefD := ⟨("_law_draw", none), "_law_draw", "_law_draw", defArgs s__law_draw, defBody s__law_draw, defScope s__law_draw, [], []⟩
def hds__law_word : He.DefD := ⟨("_law_word", none), "_law_word", "_law_word", defArgs s__law_word, defBody s__law_word, defScope s__law_word, [], []⟩
def hds__law_odd : He.DefD := ⟨("_law_odd", none), "_law_odd", "_law_odd", defArgs s__law_odd, defBody s__law_odd, defScope s__law_odd, [], []⟩
def hds__law_first : He.DefD := ⟨("_law_first", none), "_law_first", "_law_first", defArgs s__law_first, defBody s__law_first, defScope s__law_first, [], []⟩
def hds__law_last : He.DefD := ⟨("_law_last", none), "_law_last", "_law_last", defArgs s__law_last, defBody s__law_last, defScope s__law_last, [], []⟩
def hds__law_alone : He.DefD := ⟨("_law_alone", none), "_law_alone", "_law_alone", defArgs s__law_alone, defBody s__law_alone, defScope s__law_alone, [], []⟩
def hds__law_errors : He.DefD := ⟨("_law_errors", none), "_law_errors", "_law_errors", defArgs s__law_errors, defBody s__law_errors, defScope s__law_errors, [], []⟩
def hds__law_fields : He.DefD := ⟨("_law_fields", none), "_law_fields", "_law_fields", defArgs s__law_fields, defBody s__law_fields, defScope s__law_fields, [], []⟩
def hds__law_caught : He.DefD := ⟨("_law_caught", none), "_law_caught", "_law_caught", defArgs s__law_caught, defBody s__law_caught, defScope s__law_caught, [], []⟩
def hds_law : He.DefD := ⟨("law", none), "law", "law", defArgs s_law, defBody s_law, defScope s_law, [], []⟩
def hfn0 : List He.DefD := [hds_BadSystemZ_initZ, hds_NoPostZ_initZ, hds_NoRequestZ_initZ, hds_UnsuitedZ_initZ, hds_BadRowZ_initZ, hds_BadPostZ_initZ, hds_TooManyZ_initZ, hds_BadAsksZ_initZ, hds_BadTextZ_initZ, hds_NoNameZ_initZ, hds__law_dice, hds__law_draw, hds__law_word, hds__law_odd, hds__law_first, hds__law_last, hds__law_alone, hds__law_errors, hds__law_fields, hds__law_caught, hds_law]
def hfn : List He.DefD := hfn0
def hfa0 : List He.Fa := [.free "ArithmeticError", .free "AttributeError", .free "LookupError", .free "RuntimeError", .free "TypeError", .free "ValueError", .free "abs", .free "bool", .free "int", .free "isinstance", .free "len", .free "range", .glo "_law_dice", .glo "_law_draw", .glo "_law_word", .glo "_law_odd", .glo "_law_first", .glo "_law_last", .glo "_law_alone", .glo "_law_errors", .glo "_law_fields", .glo "_law_caught", .glo "law", .glo "HintError", .glo "BadSystem", .noat "BadSystem" "part", .meth "BadSystem" "__init__", .glo "NoPost", .noat "NoPost" "post", .meth "NoPost" "__init__"]
def hfa1 : List He.Fa := [.glo "NoRequest", .noat "NoRequest" "name", .meth "NoRequest" "__init__", .glo "BadMachine", .glo "Unsuited", .noat "Unsuited" "name", .meth "Unsuited" "__init__", .glo "BadRow", .noat "BadRow" "index", .meth "BadRow" "__init__", .glo "BadOffsets", .glo "BadMode", .glo "BadView", .glo "BadAsk", .glo "BadPost", .noat "BadPost" "post", .meth "BadPost" "__init__", .glo "TooMany", .noat "TooMany" "most", .meth "TooMany" "__init__", .glo "BadFraction", .glo "NotKept", .glo "BadStyle", .glo "NotNow", .glo "BadNumber", .glo "BadAsks", .noat "BadAsks" "index", .meth "BadAsks" "__init__", .glo "TooLarge", .glo "BadPosts"]
def hfa2 : List He.Fa := [.glo "BadText", .noat "BadText" "line", .meth "BadText" "__init__", .glo "NoLine", .glo "NoName", .noat "NoName" "name", .meth "NoName" "__init__", .glo "NoMatch", .glo "NothingDone", .exm "NoPost" "HintError" true]
def hfa : List He.Fa := hfa0 ++ hfa1 ++ hfa2
def hnames0 : List Str := ["__name__", "HintError", "BadSystem", "NoPost", "NoRequest", "BadMachine", "Unsuited", "BadRow", "BadOffsets", "BadMode", "BadView", "BadAsk", "BadPost", "TooMany", "BadFraction", "NotKept", "BadStyle", "NotNow", "BadNumber", "BadAsks", "TooLarge", "BadPosts", "BadText", "NoLine", "NoName", "NoMatch", "NothingDone", "_law_dice", "_law_draw", "_law_word"]
def hnames1 : List Str := ["_law_names", "_law_odd", "_law_first", "_law_last", "_law_alone", "_law_errors", "_law_fields", "_law_caught"]
def hnames : List Str := hnames0 ++ hnames1
def hex : List Str := ["BadSystem", "NoPost", "NoRequest", "Unsuited", "BadRow", "BadPost", "TooMany", "BadAsks", "BadText", "NoName"]
def hexE : List Str := ["HintError", "BadMachine", "BadOffsets", "BadMode", "BadView", "BadAsk", "BadFraction", "NotKept", "BadStyle", "NotNow", "BadNumber", "TooLarge", "BadPosts", "NoLine", "NoMatch", "NothingDone"]
def hexI : List Str := []
abbrev hexF0 : PySem.W.Frag → Bool := fun K => errsB K [He.ga K "BadSystem", He.ga K "NoPost", He.ga K "NoRequest", He.ga K "BadMachine", He.ga K "Unsuited", He.ga K "BadRow", He.ga K "BadOffsets", He.ga K "BadMode", He.ga K "BadView", He.ga K "BadAsk", He.ga K "BadPost", He.ga K "TooMany", He.ga K "BadFraction", He.ga K "NotKept", He.ga K "BadStyle", He.ga K "NotNow", He.ga K "BadNumber", He.ga K "BadAsks", He.ga K "TooLarge", He.ga K "BadPosts", He.ga K "BadText", He.ga K "NoLine", He.ga K "NoName", He.ga K "NoMatch", He.ga K "NothingDone"] (He.ga K "HintError")
abbrev hexB : PySem.W.Frag → Bool := fun K => ((hex.all fun x => oexB K (He.ga K x)) && ((hexE.all fun x => errB K (He.ga K x)) && hexI.all fun x => insB K (He.ga K x))) && (hexF0 K && true)
theorem hflag {K : PySem.W.Frag} (e : hexB K = true) (i : Nat) {x : Str} (h : hex[i]? = some x) : oexB K (He.ga K x) = true := List.all_eq_true.mp (Bool.and_eq_true_iff.mp (Bool.and_eq_true_iff.mp e).1).1 x (List.mem_of_getElem? h)
theorem hflagE {K : PySem.W.Frag} (e : hexB K = true) (i : Nat) {x : Str} (h : hexE[i]? = some x) : errB K (He.ga K x) = true := List.all_eq_true.mp (Bool.and_eq_true_iff.mp (Bool.and_eq_true_iff.mp (Bool.and_eq_true_iff.mp e).1).2).1 x (List.mem_of_getElem? h)
theorem hflagI {K : PySem.W.Frag} (e : hexB K = true) (i : Nat) {x : Str} (h : hexI[i]? = some x) : insB K (He.ga K x) = true := List.all_eq_true.mp (Bool.and_eq_true_iff.mp (Bool.and_eq_true_iff.mp (Bool.and_eq_true_iff.mp e).1).2).2 x (List.mem_of_getElem? h)
theorem hflagF0 {K : PySem.W.Frag} (e : hexB K = true) : hexF0 K = true := (Bool.and_eq_true_iff.mp (Bool.and_eq_true_iff.mp e).2).1
def top_of {K : PySem.W.Frag} {h : Heap} {mg : Str → Option Value} (X : K.In h) (G : h.Ns mainGlobals mg) (c : He.SaysD hfa hfn K) (ex : hexB K = true) : Top K mg where
  b_ArithmeticError := He.free_ok X G (c.fact 0 (f := .free "ArithmeticError") rfl)
  b_AttributeError := He.free_ok X G (c.fact 1 (f := .free "AttributeError") rfl)
  b_LookupError := He.free_ok X G (c.fact 2 (f := .free "LookupError") rfl)
  b_RuntimeError := He.free_ok X G (c.fact 3 (f := .free "RuntimeError") rfl)
  b_TypeError := He.free_ok X G (c.fact 4 (f := .free "TypeError") rfl)
  b_ValueError := He.free_ok X G (c.fact 5 (f := .free "ValueError") rfl)
  b_abs := He.free_ok X G (c.fact 6 (f := .free "abs") rfl)
  b_bool := He.free_ok X G (c.fact 7 (f := .free "bool") rfl)
  b_int := He.free_ok X G (c.fact 8 (f := .free "int") rfl)
  b_isinstance := He.free_ok X G (c.fact 9 (f := .free "isinstance") rfl)
  b_len := He.free_ok X G (c.fact 10 (f := .free "len") rfl)
  b_range := He.free_ok X G (c.fact 11 (f := .free "range") rfl)
  d__law_dice := def_at X G (c.fact 12 (f := .glo "_law_dice") rfl) (c.def_ 10 (d := hds__law_dice) rfl) (fun _ _ _ _ _ _ us hl => match us, hl with | [_], _ => rfl)
  d__law_draw := def_at X G (c.fact 13 (f := .glo "_law_draw") rfl) (c.def_ 11 (d := hds__law_draw) rfl) (fun _ _ _ _ _ _ us hl => match us, hl with | [_, _], _ => rfl)
  d__law_word := def_at X G (c.fact 14 (f := .glo "_law_word") rfl) (c.def_ 12 (d := hds__law_word) rfl) (fun _ _ _ _ _ _ us hl => match us, hl with | [_, _], _ => rfl)
  d__law_odd := def_at X G (c.fact 15 (f := .glo "_law_odd") rfl) (c.def_ 13 (d := hds__law_odd) rfl) (fun _ _ _ _ _ _ us hl => match us, hl with | [_], _ => rfl)
  d__law_first := def_at X G (c.fact 16 (f := .glo "_law_first") rfl) (c.def_ 14 (d := hds__law_first) rfl) (fun _ _ _ _ _ _ us hl => match us, hl with | [_], _ => rfl)
  d__law_last := def_at X G (c.fact 17 (f := .glo "_law_last") rfl) (c.def_ 15 (d := hds__law_last) rfl) (fun _ _ _ _ _ _ us hl => match us, hl with | [_], _ => rfl)
  d__law_alone := def_at X G (c.fact 18 (f := .glo "_law_alone") rfl) (c.def_ 16 (d := hds__law_alone) rfl) (fun _ _ _ _ _ _ us hl => match us, hl with | [_, _], _ => rfl)
  d__law_errors := def_at X G (c.fact 19 (f := .glo "_law_errors") rfl) (c.def_ 17 (d := hds__law_errors) rfl) (fun _ _ _ _ _ _ us hl => match us, hl with | [_], _ => rfl)
  d__law_fields := def_at X G (c.fact 20 (f := .glo "_law_fields") rfl) (c.def_ 18 (d := hds__law_fields) rfl) (fun _ _ _ _ _ _ us hl => match us, hl with | [_], _ => rfl)
  d__law_caught := def_at X G (c.fact 21 (f := .glo "_law_caught") rfl) (c.def_ 19 (d := hds__law_caught) rfl) (fun _ _ _ _ _ _ us hl => match us, hl with | [_], _ => rfl)
  d_law := def_at X G (c.fact 22 (f := .glo "law") rfl) (c.def_ 20 (d := hds_law) rfl) (fun _ _ _ _ _ _ us hl => match us, hl with | [_], _ => rfl)
  c_HintError := He.ga K "HintError"
  mg_HintError := He.glo_ok X G (c.fact 23 (f := .glo "HintError") rfl)
  y_HintError := errX_ok (hflagE ex 0 (x := "HintError") rfl)
  c_BadSystem := He.ga K "BadSystem"
  x_BadSystem := exc_at X G (c.fact 24 (f := .glo "BadSystem") rfl) (hflag ex 0 (x := "BadSystem") rfl) (c.fact 25 (f := .noat "BadSystem" "part") rfl) (c.fact 26 (f := .meth "BadSystem" "__init__") rfl) (c.def_ 0 (d := hds_BadSystemZ_initZ) rfl) (fun _ _ _ _ _ _ us hl => match us, hl with | [_, _], _ => rfl)
  c_NoPost := He.ga K "NoPost"
  x_NoPost := exc_at X G (c.fact 27 (f := .glo "NoPost") rfl) (hflag ex 1 (x := "NoPost") rfl) (c.fact 28 (f := .noat "NoPost" "post") rfl) (c.fact 29 (f := .meth "NoPost" "__init__") rfl) (c.def_ 1 (d := hds_NoPostZ_initZ) rfl) (fun _ _ _ _ _ _ us hl => match us, hl with | [_, _], _ => rfl)
  c_NoRequest := He.ga K "NoRequest"
  x_NoRequest := exc_at X G (c.fact 30 (f := .glo "NoRequest") rfl) (hflag ex 2 (x := "NoRequest") rfl) (c.fact 31 (f := .noat "NoRequest" "name") rfl) (c.fact 32 (f := .meth "NoRequest" "__init__") rfl) (c.def_ 2 (d := hds_NoRequestZ_initZ) rfl) (fun _ _ _ _ _ _ us hl => match us, hl with | [_, _], _ => rfl)
  c_BadMachine := He.ga K "BadMachine"
  mg_BadMachine := He.glo_ok X G (c.fact 33 (f := .glo "BadMachine") rfl)
  y_BadMachine := errX_ok (hflagE ex 1 (x := "BadMachine") rfl)
  c_Unsuited := He.ga K "Unsuited"
  x_Unsuited := exc_at X G (c.fact 34 (f := .glo "Unsuited") rfl) (hflag ex 3 (x := "Unsuited") rfl) (c.fact 35 (f := .noat "Unsuited" "name") rfl) (c.fact 36 (f := .meth "Unsuited" "__init__") rfl) (c.def_ 3 (d := hds_UnsuitedZ_initZ) rfl) (fun _ _ _ _ _ _ us hl => match us, hl with | [_, _], _ => rfl)
  c_BadRow := He.ga K "BadRow"
  x_BadRow := exc_at X G (c.fact 37 (f := .glo "BadRow") rfl) (hflag ex 4 (x := "BadRow") rfl) (c.fact 38 (f := .noat "BadRow" "index") rfl) (c.fact 39 (f := .meth "BadRow" "__init__") rfl) (c.def_ 4 (d := hds_BadRowZ_initZ) rfl) (fun _ _ _ _ _ _ us hl => match us, hl with | [_, _], _ => rfl)
  c_BadOffsets := He.ga K "BadOffsets"
  mg_BadOffsets := He.glo_ok X G (c.fact 40 (f := .glo "BadOffsets") rfl)
  y_BadOffsets := errX_ok (hflagE ex 2 (x := "BadOffsets") rfl)
  c_BadMode := He.ga K "BadMode"
  mg_BadMode := He.glo_ok X G (c.fact 41 (f := .glo "BadMode") rfl)
  y_BadMode := errX_ok (hflagE ex 3 (x := "BadMode") rfl)
  c_BadView := He.ga K "BadView"
  mg_BadView := He.glo_ok X G (c.fact 42 (f := .glo "BadView") rfl)
  y_BadView := errX_ok (hflagE ex 4 (x := "BadView") rfl)
  c_BadAsk := He.ga K "BadAsk"
  mg_BadAsk := He.glo_ok X G (c.fact 43 (f := .glo "BadAsk") rfl)
  y_BadAsk := errX_ok (hflagE ex 5 (x := "BadAsk") rfl)
  c_BadPost := He.ga K "BadPost"
  x_BadPost := exc_at X G (c.fact 44 (f := .glo "BadPost") rfl) (hflag ex 5 (x := "BadPost") rfl) (c.fact 45 (f := .noat "BadPost" "post") rfl) (c.fact 46 (f := .meth "BadPost" "__init__") rfl) (c.def_ 5 (d := hds_BadPostZ_initZ) rfl) (fun _ _ _ _ _ _ us hl => match us, hl with | [_, _], _ => rfl)
  c_TooMany := He.ga K "TooMany"
  x_TooMany := exc_at X G (c.fact 47 (f := .glo "TooMany") rfl) (hflag ex 6 (x := "TooMany") rfl) (c.fact 48 (f := .noat "TooMany" "most") rfl) (c.fact 49 (f := .meth "TooMany" "__init__") rfl) (c.def_ 6 (d := hds_TooManyZ_initZ) rfl) (fun _ _ _ _ _ _ us hl => match us, hl with | [_, _], _ => rfl)
  c_BadFraction := He.ga K "BadFraction"
  mg_BadFraction := He.glo_ok X G (c.fact 50 (f := .glo "BadFraction") rfl)
  y_BadFraction := errX_ok (hflagE ex 6 (x := "BadFraction") rfl)
  c_NotKept := He.ga K "NotKept"
  mg_NotKept := He.glo_ok X G (c.fact 51 (f := .glo "NotKept") rfl)
  y_NotKept := errX_ok (hflagE ex 7 (x := "NotKept") rfl)
  c_BadStyle := He.ga K "BadStyle"
  mg_BadStyle := He.glo_ok X G (c.fact 52 (f := .glo "BadStyle") rfl)
  y_BadStyle := errX_ok (hflagE ex 8 (x := "BadStyle") rfl)
  c_NotNow := He.ga K "NotNow"
  mg_NotNow := He.glo_ok X G (c.fact 53 (f := .glo "NotNow") rfl)
  y_NotNow := errX_ok (hflagE ex 9 (x := "NotNow") rfl)
  c_BadNumber := He.ga K "BadNumber"
  mg_BadNumber := He.glo_ok X G (c.fact 54 (f := .glo "BadNumber") rfl)
  y_BadNumber := errX_ok (hflagE ex 10 (x := "BadNumber") rfl)
  c_BadAsks := He.ga K "BadAsks"
  x_BadAsks := exc_at X G (c.fact 55 (f := .glo "BadAsks") rfl) (hflag ex 7 (x := "BadAsks") rfl) (c.fact 56 (f := .noat "BadAsks" "index") rfl) (c.fact 57 (f := .meth "BadAsks" "__init__") rfl) (c.def_ 7 (d := hds_BadAsksZ_initZ) rfl) (fun _ _ _ _ _ _ us hl => match us, hl with | [_, _], _ => rfl)
  c_TooLarge := He.ga K "TooLarge"
  mg_TooLarge := He.glo_ok X G (c.fact 58 (f := .glo "TooLarge") rfl)
  y_TooLarge := errX_ok (hflagE ex 11 (x := "TooLarge") rfl)
  c_BadPosts := He.ga K "BadPosts"
  mg_BadPosts := He.glo_ok X G (c.fact 59 (f := .glo "BadPosts") rfl)
  y_BadPosts := errX_ok (hflagE ex 12 (x := "BadPosts") rfl)
  c_BadText := He.ga K "BadText"
  x_BadText := exc_at X G (c.fact 60 (f := .glo "BadText") rfl) (hflag ex 8 (x := "BadText") rfl) (c.fact 61 (f := .noat "BadText" "line") rfl) (c.fact 62 (f := .meth "BadText" "__init__") rfl) (c.def_ 8 (d := hds_BadTextZ_initZ) rfl) (fun _ _ _ _ _ _ us hl => match us, hl with | [_, _], _ => rfl)
  c_NoLine := He.ga K "NoLine"
  mg_NoLine := He.glo_ok X G (c.fact 63 (f := .glo "NoLine") rfl)
  y_NoLine := errX_ok (hflagE ex 13 (x := "NoLine") rfl)
  c_NoName := He.ga K "NoName"
  x_NoName := exc_at X G (c.fact 64 (f := .glo "NoName") rfl) (hflag ex 9 (x := "NoName") rfl) (c.fact 65 (f := .noat "NoName" "name") rfl) (c.fact 66 (f := .meth "NoName" "__init__") rfl) (c.def_ 9 (d := hds_NoNameZ_initZ) rfl) (fun _ _ _ _ _ _ us hl => match us, hl with | [_, _], _ => rfl)
  c_NoMatch := He.ga K "NoMatch"
  mg_NoMatch := He.glo_ok X G (c.fact 67 (f := .glo "NoMatch") rfl)
  y_NoMatch := errX_ok (hflagE ex 14 (x := "NoMatch") rfl)
  c_NothingDone := He.ga K "NothingDone"
  mg_NothingDone := He.glo_ok X G (c.fact 68 (f := .glo "NothingDone") rfl)
  y_NothingDone := errX_ok (hflagE ex 15 (x := "NothingDone") rfl)
  er := errsB_ok (hflagF0 ex)
  e_NoPost_HintError := He.exm_ok (c.fact 69 (f := .exm "NoPost" "HintError" true) rfl)
abbrev hR : PySem.W.OpenRow := PySem.W.OpenLaw.row PySem.Challenge.rw_hintslie_k17_errors_kinds_and_fields
abbrev hhk : PySem.W.Hook := hookX 5 hfa hfn hexB
def hob (s : PySem.W.SharedT) : AlX := obsXG 5 hfa hfn hexB (HandSHeadRun.getT s)
theorem hob_eq (s : PySem.W.SharedT) : hob s = hhk.obs s.abs := obsXG_eq (HandSHeadRun.getT_eq s)
theorem hrun (w : World) : HandSHeadRun.RunEq hR (PySem.W.view hR.prog [39]) hhk hob 12000 hnames w := by
  intro os
  kernel_rfl
theorem facts {P : Program} {w : World} {K : PySem.W.Frag} {h : Heap} {mg : Str → Option Value} {f : Addr} (X : K.In h) (G : h.Ns mainGlobals mg) (hlw : mg ("law" : Str) = some (.ref f)) (c : He.SaysD hfa hfn K) (ex : hexB K = true) :
    ∃ fd : FuncData, (∀ (s : Shared) (v : Value), BindsTo s fd ⟨[v], []⟩ [("script", v)]) ∧ ∀ base : Heap, K.In base → base.Ns mainGlobals mg → FnOk P w K mg base CX0 4 f fd ["script"] (spLaw K) := by
  obtain ⟨fd, F⟩ := c.def_ 20 (d := hds_law) rfl
  have e := hlw.symm.trans (He.glo_ok X G (c.fact 22 (f := .glo "law") rfl))
  cases e
  have b := FunD.bindsA (ps := ["script"]) F fun _ _ _ _ _ _ us hl => match us, hl with | [_], _ => rfl
  exact ⟨fd, fun s v => b s [v] rfl, fun base _ _ => okf_law (top_of X G c ex) (fun_of F)⟩
end Toy
open PySem PySem.W PySem.Calls PyProof.Rows
theorem PySem.Challenge.cw_hintslie_k17_errors_kinds_and_fields_holds : PySem.Challenge.rw_hintslie_k17_errors_kinds_and_fields.Holds := by
  w_on; o_law
  refine HandSHeadRun.head_any (r := OpenLaw.row PySem.Challenge.rw_hintslie_k17_errors_kinds_and_fields) (q := view (OpenLaw.row PySem.Challenge.rw_hintslie_k17_errors_kinds_and_fields).prog [39]) (H := Toy.hhk) (ob := Toy.hob) (M := 12000) (loose := Toy.hnames) (d := HandSHeadRun.topDef (OpenLaw.row PySem.Challenge.rw_hintslie_k17_errors_kinds_and_fields).prog 39) (kwd := []) Toy.hob_eq
    (by kernel_rfl) (fun s => by kernel_rfl) Toy.hrun (by kernel_rfl) (by kernel_rfl) (by kernel_rfl) (by rfl) (by first | assumption | decide +kernel) (by decide +kernel) ⟨rfl, rfl, rfl, rfl, rfl, by decide +kernel⟩ ?hw ?hc
  case hw => w_witness2
  case hc =>
    refine L2.walk_ofE (l := PySem.Challenge.rw_hintslie_k17_errors_kinds_and_fields) (n := 63) (k := 4) (x := "script") (CX := L2.CX0) rfl (by decide) (by kernel_rfl) ⟨rfl, by decide, by decide⟩ ?F (fun _ _ _ _ z => z)
    intro w mg fa h Y G hmg0
    obtain ⟨K, KX, c, ex⟩ := Y
    have hmg : mg ("law" : PySem.Str) = some (.ref fa) := by
      have e : (HandSHeadRun.topDef (OpenLaw.row PySem.Challenge.rw_hintslie_k17_errors_kinds_and_fields).prog 39).name = ("law" : PySem.Str) := by kernel_rfl
      rw [← e]
      exact hmg0
    obtain ⟨fd, hb, hF⟩ := Toy.facts (P := (PySem.Challenge.rw_hintslie_k17_errors_kinds_and_fields).prog) (w := w) KX G hmg c ex
    exact ⟨K, fd, Toy.spLaw K, KX, hb, fun H a ns hl _ hS => ⟨a, ns, rfl, hS, hl, fun _ => rfl⟩, hF⟩

