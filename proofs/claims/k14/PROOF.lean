import PyProof.Rows.All
import Wide.All
import OpenK.AllK
import Wide.FinOn
import HandS.ForMost
import HandS.OwnEq
import HandS.IsInst
import HandS.Codes
import HandS.Wide
import HandS.Replace
import HandS.NoneIn
import HandS.Flow
import HandS.Style
import KE.GoesZip
import KE.GoesMore
import KE.GoesEnum
import HandS.Walk
import HandS.RaiseMore
import KE.KDictZip
import HandS.DictComp
import HandS.Strs
import HandS.CallLocal
import HandS.NestedK
import HandS.StrMore
import HandS.FStr
import KE.KExcInit
import HandS.ExcInit
import HandS.ExcIs
import HandS.ExcField
import HandS.MakeKw
import PyProof.ExcBaseAll.LookupError
import HandS.TryMany
import HandS.CallSlots
import HandS.Deep
import KE.KDictKeyed
import HandS.Dict
import HandS.TupLen
import KE.KDictLaws
import HandS.SetBool
import HandS.ExcValue
import HandS.Star
import KE.KCallOwn
import PyProof.CallFns
import HandS.EndTab
import KE.KExcLine
import PySem.Challenge.RW_allrows_k14_alike_marks
set_option Elab.async false
set_option linter.all false
set_option maxRecDepth 100000
namespace LX
open PySem PySem.Spec PyProof.Rows L2 C8 SX
section
variable {X : Cx}
theorem call_list_str (hc : X.calm = true) : CallR X (.type "list") (fun (xs : List V) (H : Hp) (Q : VK) => ∃ l : List Nat, xs = [V.str (S l)] ∧ l.length ≤ sizeLine ∧ ∀ p, H p = none → Q (.ref p) (upd H p (.lst (l.map fun c => V.str (S [c]))))) := by
  intro pins s σ H xs us Q I r h
  obtain ⟨l, rfl, hl, q⟩ := h
  obtain ⟨u, rfl, ru⟩ := vals1 r
  obtain ⟨t, rfl⟩ := ru
  refine PySem.call_list_str (I.ok.hd hc) (S l) t (fun h' tk acc' c' hk hS hacc => ?_) (by simpa [S] using hl)
  have hv : Vals (l.map fun c => V.str (S [c])) acc'.toList := by
    obtain ⟨hsz, hit⟩ := hacc
    have hsz' : acc'.toList.length = l.length := by simpa using hsz
    have gen : ∀ (m : List Nat) (as : List Value), as.length = m.length → (∀ (j : Nat) (v : Value), as[j]? = some v → ∃ (c : Nat) (u : Tok), m[j]? = some c ∧ v = Value.str ⟨#[c]⟩ u) → Vals (m.map fun c => V.str (S [c])) as := by
      intro m
      induction m with
      | nil => intro as ha _; cases as with
        | nil => exact .nil
        | cons a as => cases ha
      | cons c m ih => intro as ha hh; cases as with
        | nil => cases ha
        | cons a as =>
          obtain ⟨c', u, e1, e2⟩ := hh 0 a rfl
          have : c = c' := Option.some.inj e1
          subst this
          exact .cons ⟨u, e2⟩ (ih as (Nat.succ.inj ha) fun j v e => hh (j + 1) v e)
    refine gen l acc'.toList hsz' fun j v e => ?_
    obtain ⟨c, u, e1, e2⟩ := hit j v (by simpa using e)
    exact ⟨c, u, by simpa [S] using e1, e2⟩
  refine ⟨.ref _, _, I.laid (t' := tk) (o := .lst (l.map fun c => V.str (S [c]))) hk (Nat.le_refl _) ⟨by simpa using hl, acc'.toList, c', hv, by simpa using hS⟩, rfl, q _ (I.hok.fresh (Nat.le_refl _))⟩
theorem op_mul_si : OpR X (binaryOp .Mult) (fun x y H Q => ∃ (z : Str) (k : Int), x = .str z ∧ y = .int k ∧ (k = 0 ∨ k = 1) ∧ Q (.str (if k = 0 then S [] else z)) H) := by
  intro pins s σ H x y v u Q I rx ry h
  obtain ⟨z, k, rfl, rfl, hk, q⟩ := h
  obtain ⟨t, rfl⟩ := rx
  obtain ⟨t', rfl⟩ := ry
  rcases hk with rfl | rfl
  · exact PySem.P.mul_str_none (by decide) (by decide) ⟨.str (S []), H, I.tok _, ⟨_, rfl⟩, q⟩
  · refine PySem.P.mul_str (by decide) (fun _ h => by simp at h) (fun _ h => by simp at h) ?_
    rw [if_neg (by decide), if_pos (by simp)]
    exact ⟨.str z, H, I, ⟨t, rfl⟩, q⟩
def tRevS (te ts : TE) : TE := fun σ H Q => te σ H fun x H1 => ts σ H1 fun y H2 => ∃ i, y = .int i ∧ (some i = some (-1) ∧ ∃ l : List Nat, x = .str (S l) ∧ l.length ≤ sizeLine ∧ Q (.str (S l.reverse)) H2)
theorem rev_indices (z : Str) : (Builtin.Str.strSliceIndices none none (-1) z.length).filterMap (z.cps[·]?) = z.cps.toList.reverse := by
  have e : Builtin.Str.strSliceIndices none none (-1) z.length = (List.range z.length).reverse := by
    show sliceRange ((z.length : Int) - 1) (-1) (-1) = _
    rw [PySem.W.krv_sliceRange]
    exact PySem.W.krv_range _
  rw [e, List.filterMap_reverse]
  exact congrArg List.reverse (PySem.W.krv_all z.cps)
theorem pe_revS {e st : Expr} {te ts : TE} {p3 pos : Pos} (he : PE X e te) (hs : PE X st ts) : PE X (.Subscript e (.Slice none none (some st) p3) pos) (tRevS te ts) := by
  refine ⟨fun pins s σ H Q I h => ?_⟩
  refine Subscript_ (thn (he.run pins s σ H _ I h) fun v s1 ⟨x, H1, I1, r1, q1⟩ => ?_)
  have hst : PO X (some st) (tPart ts) := po_some hs
  refine wpAny_Slice (thn (po_none.run pins s1 σ H1 (fun o H2 => o = none ∧ H2 = H1) I1 ⟨rfl, rfl⟩) fun vl s2 ⟨l, H2, I2, pl, el, e2⟩ => ?_)
  subst el e2
  refine thn (po_none.run pins s2 σ H2 (fun o H3 => o = none ∧ H3 = H2) I2 ⟨rfl, rfl⟩) fun vu s3 ⟨u, H3, I3, pu, eu, e3⟩ => ?_
  subst eu e3
  refine thn (hst.run pins s3 σ H3 (fun o H4 => o = some (-1) ∧ ∃ l : List Nat, x = .str (S l) ∧ l.length ≤ sizeLine ∧ Q (.str (S l.reverse)) H4) I3 q1) fun vs s4 ⟨o, H4, I4, ps, eo, l, ex, hl, q⟩ => ?_
  subst eo ex
  obtain ⟨t, rfl⟩ := r1
  have I5 : Inv X pins σ H4 { s4 with heap := s4.heap.push { cls := .type "slice", data := .fields #[vl, vu, vs] } } := I4.kept (t' := s4.toks) fun b ob q => Heap.get?_push_of_some _ q
  show wpAny (model X.prog X.w) X.A (subscriptTail e (.Slice none none (some st) p3) (.str (S l) t) (.ref s4.heap.objs.size)) (EP X pins σ Q) X.xe { s4 with heap := s4.heap.push { cls := .type "slice", data := .fields #[vl, vu, vs] } }
  obtain ⟨l', el, el2⟩ := IsPart.raw pl
  obtain ⟨u', eu, eu2⟩ := IsPart.raw pu
  obtain ⟨s', es, es2⟩ := IsPart.raw ps
  refine tail_any (ops := [.ref s4.heap.objs.size, .str (S l) t]) (typeIs_str _ _ _) F.slot_str_getitem.lookup ?_ (by with_unfolding_all rfl)
  refine wpAny_getItem_str_slice (l := l') (u := u') (st := s') ?_ (by rw [es2]; rfl) ?_
  · rw [el, eu, es]
    exact Heap.IsSliceOf.new ..
  · unfold sliceMade slicePicked
    rw [el2, eu2, es2]
    show Made.post (if ((-1 : Int) == 1 && (Builtin.Str.strSliceIndices none none (-1) (S l).length).length == (S l).length) = true then Made.val (.str (S l) t)
      else Made.str ⟨((Builtin.Str.strSliceIndices none none (-1) (S l).length).filterMap ((S l).cps[·]?)).toArray⟩) (EP X pins σ Q) _
    rw [if_neg (by simp), rev_indices]
    exact ⟨by simpa [Str.length] using hl, .str _, H4, I5.tok _, ⟨_, rfl⟩, q⟩
end
end LX
namespace LX
open PySem PySem.Spec PyProof.Rows L2 C8 SX
inductive Sr where
  | txt (x : Str) | lst (a : Addr) | tup (a : Addr)
def Sr.fp : Sr → List Addr
  | .txt _ => [] | .lst a => [a] | .tup a => [a]
def Sr.has (K : PySem.W.Frag) : Sr → Nat → Hp → Prop
  | .txt x, i, _ => i < x.cps.size
  | .lst a, i, H => ∃ xs, SqL K H a xs ∧ i < xs.length
  | .tup a, i, H => ∃ xs, SqT K H a xs ∧ i < xs.length
def Sr.val (K : PySem.W.Frag) : Sr → Nat → Hp → V → Prop
  | .txt x, i, _, v => ∃ c, x.cps[i]? = some c ∧ v = .str ⟨#[c]⟩
  | .lst a, i, H, v => ∀ xs, SqL K H a xs → xs[i]? = some v
  | .tup a, i, H, v => ∀ xs, SqT K H a xs → xs[i]? = some v
def Sr.upto (K : PySem.W.Frag) : Sr → Nat → Hp → Prop
  | .txt x, i, _ => i ≤ x.cps.size
  | .lst a, i, H => ∃ xs, SqL K H a xs ∧ i ≤ xs.length
  | .tup a, i, H => ∃ xs, SqT K H a xs ∧ i ≤ xs.length
def Sr.ends (K : PySem.W.Frag) : Sr → Nat → Hp → Prop
  | .txt x, i, _ => i = x.cps.size
  | .lst a, i, H => ∃ xs, SqL K H a xs ∧ i = xs.length
  | .tup a, i, H => ∃ xs, SqT K H a xs ∧ i = xs.length
def Sr.tn : Sr → Addr → Nat → Heap → Prop
  | .txt x, it, i, h => ∃ t, h.IsStrIter it (strIterType x) x t i
  | .lst a, it, i, h => h.IsListIter it a i
  | .tup a, it, i, h => h.IsTupleIter it a i
theorem Sr.tn_obj : ∀ {S : Sr} {it : Addr} {i : Nat} {h : Heap}, S.tn it i h → ∃ o, h.get? it = some o ∧ ∀ v, o.data ≠ .cell v
  | .txt _, _, _, _, ⟨_, o, e, _, d⟩ => ⟨o, e, fun v q => by rw [d] at q; cases q⟩
  | .lst _, _, _, _, h => let ⟨o, e, _, d⟩ := h; ⟨o, e, fun v q => by rw [d] at q; cases q⟩
  | .tup _, _, _, _, ⟨o, e, _, d⟩ => ⟨o, e, fun v q => by rw [d] at q; cases q⟩
theorem Sr.tn_keep : ∀ {S : Sr} {it : Addr} {i : Nat} {h h' : Heap}, S.tn it i h → (∀ o, h.get? it = some o → h'.get? it = some o) → S.tn it i h'
  | .txt _, _, _, _, _, ⟨t, o, e, r⟩, k => ⟨t, o, k o e, r⟩
  | .lst _, _, _, _, _, h, k => h.at k
  | .tup _, _, _, _, _, h, k => h.at k
section
variable {X : Cx} {pins : List (Addr × Obj)} {σ : L2.St} {H : Hp} {s : Shared}
structure DrawsAt (X : Cx) (S : Sr) (H : Hp) (s : Shared) (it : Addr) (i : Nat) (n : Nat) : Prop where
  ex : ∃ (Pp : Nat → Value → Prop) (St : Nat → Heap → Prop), (∀ A : Around, A.handled = none → Draws X.prog X.w A it (it :: S.fp) n Pp St) ∧ St i s.heap ∧
    (∀ u, Pp i u → ∃ v, S.val X.K i H v ∧ RelV v u) ∧ ∀ j h', St j h' → S.tn it j h'
theorem Sr.draws (S : Sr) {it : Addr} {i : Nat} (I : Inv X pins σ H s) (hit : ∀ a ∈ S.fp, a ≠ it) (st : S.tn it i s.heap) (hu : S.upto X.K i H) : ∃ n, DrawsAt X S H s it i n ∧ i ≤ n ∧ (S.has X.K i H → i < n) ∧ (S.ends X.K i H → i = n) := by
  cases S with
  | txt x =>
    obtain ⟨t, st⟩ := st
    refine ⟨x.cps.size, ⟨_, _, fun A hh => Draws.text hh it x t, st, fun u ⟨c, u', e, eu⟩ => ?_, fun j h' q => ⟨t, q⟩⟩, hu, fun h => h, fun h => h⟩
    exact ⟨.str ⟨#[c]⟩, ⟨c, e, rfl⟩, ⟨u', eu⟩⟩
  | lst a =>
    obtain ⟨xs, hx, hu⟩ := hu
    obtain ⟨its, rv, p, _⟩ := I.list hx
    have hl := rv.length
    refine ⟨its.toArray.size, ⟨_, _, fun A hh => Draws.list hh it a (hit a (List.mem_singleton.mpr rfl)) its.toArray, ⟨st, p.isList⟩, fun u hq => ?_, fun j h' q => q.1⟩, by simp; omega, fun ⟨ys, hy, h⟩ => ?_, fun ⟨ys, hy, h⟩ => ?_⟩
    · have hq' : its[i]? = some u := by simpa using hq
      have hlt : i < xs.length := by rw [hl]; exact (List.getElem?_eq_some_iff.mp hq').1
      obtain ⟨u', e, r⟩ := rv.get (List.getElem?_eq_getElem hlt)
      rw [hq'] at e
      rw [Option.some.inj e]
      exact ⟨xs[i], fun zs hz => by rw [I.list_inj hz hx]; exact List.getElem?_eq_getElem hlt, r⟩
    · rw [I.list_inj hy hx] at h; simp; omega
    · rw [I.list_inj hy hx] at h; simp; omega
  | tup a =>
    obtain ⟨xs, hx, hu⟩ := hu
    obtain ⟨its, rv, p, _⟩ := I.tuple hx
    have hl := rv.length
    refine ⟨its.toArray.size, ⟨_, _, fun A hh => Draws.tuple hh it a (hit a (List.mem_singleton.mpr rfl)) its.toArray, ⟨st, p⟩, fun u hq => ?_, fun j h' q => q.1⟩, by simp; omega, fun ⟨ys, hy, h⟩ => ?_, fun ⟨ys, hy, h⟩ => ?_⟩
    · have hq' : its[i]? = some u := by simpa using hq
      have hlt : i < xs.length := by rw [hl]; exact (List.getElem?_eq_some_iff.mp hq').1
      obtain ⟨u', e, r⟩ := rv.get (List.getElem?_eq_getElem hlt)
      rw [hq'] at e
      rw [Option.some.inj e]
      exact ⟨xs[i], fun zs hz => by rw [I.tuple_inj hz hx]; exact List.getElem?_eq_getElem hlt, r⟩
    · rw [I.tuple_inj hy hx] at h; simp; omega
    · rw [I.tuple_inj hy hx] at h; simp; omega
end
def ItzX (K : PySem.W.Frag) (S1 S2 : Sr) : It :=
  ⟨fun i H => S1.has K i H ∧ S2.has K i H,
    fun i H v H' => ∃ T x y, v = .ref T ∧ H T = none ∧ H' = upd H T (.tup [x, y]) ∧ S1.val K i H x ∧ S2.val K i H y,
    fun i H => S1.upto K i H ∧ S2.upto K i H ∧ (S1.ends K i H ∨ S2.ends K i H)⟩
theorem Sr.has_upto {K : PySem.W.Frag} : ∀ {S : Sr} {i : Nat} {H : Hp}, S.has K i H → S.upto K i H
  | .txt _, _, _, h => Nat.le_of_lt h
  | .lst _, _, _, ⟨xs, hx, h⟩ => ⟨xs, hx, Nat.le_of_lt h⟩
  | .tup _, _, _, ⟨xs, hx, h⟩ => ⟨xs, hx, Nat.le_of_lt h⟩
theorem turn_zipX {P : Program} {w : World} {K : PySem.W.Frag} {elts : List Expr} {kk : Nat} {tpos : Pos} {z TI TO i1 i2 : Addr} (S1 S2 : Sr) (D : ZipSep2 z TI TO i1 i2 (i1 :: S1.fp) (i2 :: S2.fp)) (n1 : ∀ a ∈ S1.fp, a ≠ i1) (n2 : ∀ a ∈ S2.fp, a ≠ i2) :
    Turn P w K (.Tuple elts kk tpos) (ItzX K S1 S2) [z, TI, TO, i1, i2] z (fun i h => IsZip h z TI TO .none ∧ IsTupOf2 h TI (.ref i1) (.ref i2) ∧ (∃ x y, IsTupOf2 h TO x y) ∧ S1.tn i1 i h ∧ S2.tn i2 i h) where
  mem := by simp
  obj := fun i h st c hc => by
    obtain ⟨hz, hTI, ⟨x, y, hTO⟩, h1, h2⟩ := st
    have e' : c = z ∨ c = TI ∨ c = TO ∨ c = i1 ∨ c = i2 := by simpa using hc
    rcases e' with q | q | q | q | q
    · rw [q]; exact ⟨_, hz, fun v q => nomatch q⟩
    · rw [q]; exact ⟨_, hTI, fun v q => nomatch q⟩
    · rw [q]; exact ⟨_, hTO, fun v q => nomatch q⟩
    · rw [q]; exact Sr.tn_obj h1
    · rw [q]; exact Sr.tn_obj h2
  keep := fun i h h' st k => by
    obtain ⟨hz, hTI, ⟨x, y, hTO⟩, h1, h2⟩ := st
    exact ⟨k z (by simp) _ hz, k TI (by simp) _ hTI, ⟨x, y, k TO (by simp) _ hTO⟩, Sr.tn_keep h1 fun o q => k i1 (by simp) o q, Sr.tn_keep h2 fun o q => k i2 (by simp) o q⟩
  item := by
    intro X hP hw hK hc i pins s σ H E I hf st hg
    subst hP hw hK
    obtain ⟨hz, hTI, ⟨x0, y0, hTO⟩, h1, h2⟩ := st
    obtain ⟨g1, g2⟩ := hg
    obtain ⟨m1, ⟨P1, St1, D1, st1, v1, t1⟩, _, lt1, _⟩ := S1.draws I n1 h1 (Sr.has_upto g1)
    obtain ⟨m2, ⟨P2, St2, D2, st2, v2, t2⟩, _, lt2, _⟩ := S2.draws I n2 h2 (Sr.has_upto g2)
    have hzl : z < s.heap.objs.size := Heap.lt_size hz
    refine wpAny_pyNext_zipD2_item D (D1 _ (I.ok.hd hc)) (D2 _ (I.ok.hd hc)) hz hTI hTO st1 st2 (lt1 g1) (lt2 g2) fun u1 u2 h' tk p1 p2 z' TO' st1' st2' hT hsz hk => ?_
    obtain ⟨x, hx, rx⟩ := v1 u1 p1
    obtain ⟨y, hy, ry⟩ := v2 u2 p2
    refine ⟨_, rfl, wpAny_letOwnedTupleGo_zip (s := { s with heap := h', toks := tk }) z' fun h'' z'' sb => ?_⟩
    have hT2 : h''.get? s.heap.objs.size = some { cls := .type "tuple", data := .seq #[u1, u2] } := (sb.2 _ (Nat.ne_of_gt hzl)).trans hT
    have new : ObjOk X.prog X.w (upd H s.heap.objs.size (.tup [x, y])) h'' s.heap.objs.size (.tup [x, y]) :=
      ⟨by show 2 ≤ sizeLine; decide, [u1, u2], .cons rx (.cons ry .nil), ⟨_, hT2, rfl, _, rfl⟩⟩
    have I1 : Inv X pins σ (upd H s.heap.objs.size (.tup [x, y])) { s with heap := h'', toks := tk } :=
      I.turnedNew (t' := tk) (ch := [z, TI, TO, i1, i2]) (fun c o hb q => (sb.2 c (fun q' => hb (by simp [q']))).trans (hk c o (fun q' => hb (by simp [q'])) (fun q' => hb (by simp [q'])) (fun q' => hb (by simp [q'])) (fun q' => hb (by simp [q'])) q)) hf (Nat.le_refl _) new
    refine ⟨.ref s.heap.objs.size, _, I1, rfl, ⟨_, x, y, rfl, I.hok.fresh (Nat.le_refl _), rfl, hx, hy⟩, ⟨z'', ?_, ⟨u1, u2, ?_⟩, ?_, ?_⟩, fun c hcm => ?_⟩
    · exact (sb.2 _ D.TIz).trans (hk _ _ D.TIz D.TITO D.TIi1 D.TIi2 hTI)
    · exact (sb.2 _ D.TOz).trans TO'
    · exact Sr.tn_keep (t1 _ _ st1') fun o q => (sb.2 _ D.zi1.symm).trans q
    · exact Sr.tn_keep (t2 _ _ st2') fun o q => (sb.2 _ D.zi2.symm).trans q
    · have hlt : c < s.heap.objs.size := by
        have e' : c = z ∨ c = TI ∨ c = TO ∨ c = i1 ∨ c = i2 := by simpa using hcm
        rcases e' with q | q | q | q | q
        · rw [q]; exact hzl
        · rw [q]; exact Heap.lt_size hTI
        · rw [q]; exact Heap.lt_size hTO
        · rw [q]; obtain ⟨_, e1, _⟩ := Sr.tn_obj h1; exact Heap.lt_size e1
        · rw [q]; obtain ⟨_, e2, _⟩ := Sr.tn_obj h2; exact Heap.lt_size e2
      rw [upd_ne (Nat.ne_of_lt hlt)]
      exact (hf c hcm).1
  done := by
    intro X hP hw hK hc i pins s σ H E I hf st hg
    subst hP hw hK
    obtain ⟨hz, hTI, ⟨x0, y0, hTO⟩, h1, h2⟩ := st
    obtain ⟨g1, g2, ge⟩ := hg
    obtain ⟨m1, ⟨P1, St1, D1, st1, v1, t1⟩, le1, _, eq1⟩ := S1.draws I n1 h1 g1
    obtain ⟨m2, ⟨P2, St2, D2, st2, v2, t2⟩, le2, _, eq2⟩ := S2.draws I n2 h2 g2
    exact wpAny_pyNext_zipD2_end D (D1 _ (I.ok.hd hc)) (D2 _ (I.ok.hd hc)) hz hTI hTO st1 st2 le1 le2 (ge.elim (fun q => .inl (eq1 q)) fun q => .inr (eq2 q)) fun h' tk hk => ⟨rfl, I.turnedL (t' := tk) (ch := [z, TI, TO, i1, i2]) (fun c o hb q =>
      hk c o (fun q' => hb (by simp [q'])) (fun q' => hb (by simp [q'])) (fun q' => hb (by simp [q'])) (fun q' => hb (by simp [q'])) q) hf⟩
  self := fun A i s Q E st h => wpAny_pyIter_zip st.1 h
def Sr.of : V → Sr → Prop
  | .str x, .txt y => x = y
  | .ref a, .lst b => a = b
  | .ref a, .tup b => a = b
  | _, _ => False
def Sr.there (K : PySem.W.Frag) (H : Hp) : Sr → Prop
  | .txt _ => True
  | .lst a => ∃ xs, SqL K H a xs
  | .tup a => ∃ xs, SqT K H a xs
theorem Sr.begins {X : Cx} {pins : List (Addr × Obj)} {σ : L2.St} {H : Hp} {s : Shared} (I : Inv X pins σ H s) {v : V} {u : Value} (r : RelV v u) : ∀ {S : Sr}, S.of v → S.there X.K H → ∃ (o : Obj) (HH : Heap → Prop), Begins u o HH ∧ HH s.heap ∧ (∀ a ∈ S.fp, a < s.heap.objs.size) ∧ ∀ (h : Heap) (it : Addr), h.get? it = some o → S.tn it 0 h
  | .txt y, e, _ => by
    cases v with
    | str x =>
      have e' : x = y := e
      subst e'
      obtain ⟨t, rfl⟩ := r
      exact ⟨_, _, begins_text x t, trivial, (fun _ h => nomatch h), fun h it q => ⟨t, _, q, rfl, rfl⟩⟩
    | _ => exact e.elim
  | .lst b, e, ⟨xs, hx⟩ => by
    cases v with
    | ref a =>
      have e' : a = b := e
      subst e'
      cases r
      obtain ⟨its, rv, p, _⟩ := I.list hx
      refine ⟨_, _, begins_list a its.toArray, p.isList, fun c h => ?_, fun h it q => ⟨_, q, rfl, rfl⟩⟩
      rw [List.mem_singleton.mp h]; exact p.lt
    | _ => exact e.elim
  | .tup b, e, ⟨xs, hx⟩ => by
    cases v with
    | ref a =>
      have e' : a = b := e
      subst e'
      cases r
      obtain ⟨its, rv, p, _⟩ := I.tuple hx
      refine ⟨_, _, begins_tuple a its.toArray, p, fun c h => ?_, fun h it q => ⟨_, q, rfl, rfl⟩⟩
      rw [List.mem_singleton.mp h]; exact p.lt
    | _ => exact e.elim
def iZipX (K : PySem.W.Frag) (ta : TA) : TI := fun σ H R => ta σ H fun vs H1 => ∃ (x y : V) (S1 S2 : Sr), vs = [x, y] ∧ S1.of x ∧ S2.of y ∧ S1.there K H1 ∧ S2.there K H1 ∧ R (ItzX K S1 S2) H1
theorem pi_zipX {X : Cx} {e e2 : Expr} {ta : TA} {p pos tpos : Pos} {elts : List Expr} {kk : Nat} (hg : Gl X "zip") (hm : X.mg "zip" = none) (ha : PA X [e, e2] ta)
    (hs : starEach [e, e2] X.env = (false, eval e X.env) :: starEach [e2] X.env := by rfl) (hpl : (backTo pos (starEach [e2] X.env)).any (·.1) = false := by rfl) :
    PI X (.Tuple elts kk tpos) (.Call (.Name "zip" p) [e, e2] [] pos) (iZipX X.K ta) := by
  refine ⟨fun pins s σ H R I h => ?_⟩
  refine Call_ (ld_blt I hg hm PyProof.Rows.boot_zip (PyProof.Rows.callWith_type1 (thn (ha.run pos pins s σ H _ I h) fun us s1 ⟨vs, H1, I1, r1, q1⟩ => ?_) hs hpl))
  obtain ⟨x, y, S1, S2, ex, e1, e2, th1, th2, q⟩ := q1
  subst ex
  obtain ⟨u, u', rfl, r, r'⟩ := vals2 r1
  obtain ⟨o1, HH1, B1, b1, f1, t1⟩ := Sr.begins I1 r e1 th1
  obtain ⟨o2, HH2, B2, b2, f2, t2⟩ := Sr.begins I1 r' e2 th2
  have fresh5 : ∀ c, c ∈ [s1.heap.objs.size + 4, s1.heap.objs.size + 2, s1.heap.objs.size + 3, s1.heap.objs.size, s1.heap.objs.size + 1] → FpOk X pins H1 c := fun c hcm => by
    have e' : c = s1.heap.objs.size + 4 ∨ c = s1.heap.objs.size + 2 ∨ c = s1.heap.objs.size + 3 ∨ c = s1.heap.objs.size ∨ c = s1.heap.objs.size + 1 := by simpa using hcm
    have hle : s1.heap.objs.size ≤ c := by
      rcases e' with z | z | z | z | z
      · rw [z]; exact Nat.le_add_right _ _
      · rw [z]; exact Nat.le_add_right _ _
      · rw [z]; exact Nat.le_add_right _ _
      · rw [z]; exact Nat.le_refl _
      · rw [z]; exact Nat.le_add_right _ _
    exact I1.fpOk hle (I1.hok.fresh hle)
  refine zip_begins2 B1 B2 b1 b2 fun h' hz hTI hTO h1 h2 hsz hk => wpAny_pyIter_zip hz ?_
  have I2 : Inv X pins σ H1 { s1 with heap := h' } := I1.kept (t' := s1.toks) hk
  exact ⟨s1.heap.objs.size + 4, [s1.heap.objs.size + 4, s1.heap.objs.size + 2, s1.heap.objs.size + 3, s1.heap.objs.size, s1.heap.objs.size + 1], _, _, H1, rfl, I2,
    turn_zipX S1 S2 (PySem.zip_sep2 f1 f2) (fun a ha => Nat.ne_of_lt (f1 a ha)) (fun a ha => Nat.ne_of_lt (Nat.lt_succ_of_lt (f2 a ha))), ⟨hz, hTI, ⟨_, _, hTO⟩, t1 _ _ h1, t2 _ _ h2⟩, fresh5, q⟩
end LX
namespace LX
open PySem PySem.Spec PyProof.Rows L2 C8 SX
section
variable {prog : Program} {w : World} {A : Around} {E : Value → Shared → Prop} {s : Shared} {K : PySem.W.Frag} {x y C L f : Addr} {h₀ : Heap} {m : Str → Option Value} {ox : Obj} {od : Option Obj}
theorem objNe_own (X : K.In s.heap) (I : PySem.W.InstAt s.heap x ox C od) (hs : PySem.W.findIn K (.ref C) "__eq__" = some (some (.ref f))) (hf : PySem.W.isFn K (.ref f) = true) (hu : A.units < cLine) {Q : Fin → Shared → Prop}
    (hcall : wpAny (model prog w) A (call (.ref f) [.ref x, .ref y]) (fun v s' => ∃ b, v = .bool b ∧ Q (.done (.ret (.bool (!b)))) s') E s) :
    wpAny (model prog w) A (Builtin.«object.__ne__» ⟨[.ref x, .ref y], []⟩) Q E s := by
  unfold Builtin.«object.__ne__»
  repeat (first
    | with_reducible refine wpAny_cRoomFor hu ?_
    | (refine wpAny_bind (m := callSpecialIfBound? (.ref x) (Str.ofString "__eq__") [.ref y])
        (PySem.W.ifBound_K X I hs hf (wpAny_mono hcall (fun r s' hr => by
          obtain ⟨b, rfl, hq⟩ := hr
          repeat (first | exact hq | exact wpAny_pure hq | exact wpAny_truthy_bool hq | (refine wpAny_bind (m := truthy (.bool _)) (wpAny_truthy_bool ?_)) | wp_step)) fun _ _ e => e)))
    | wp_step)
theorem ifBound_ne {M : Model} {args : List Value} {Q : Option Value → Shared → Prop} (X : K.In s.heap) (I : PySem.W.InstAt s.heap x ox C od) (hs : PySem.W.findIn K (.ref C) "__ne__" = some (some (.builtin "object.__ne__")))
    (h : wpAny M A (call (.builtin "object.__ne__") (.ref x :: args)) (fun v => Q (some v)) E s) : wpAny M A (callSpecialIfBound? (.ref x) "__ne__" args) Q E s := by
  simp only [callSpecialIfBound?, bindSpecialIfBound?]
  refine wpAny_holding (wpAny_bind (wpAny_bind (wpAny_bind (I.type.here ((PySem.W.looks_findIn X hs).here ?_)))))
  simp only [F.cmp_object.ne.bind]
  refine wpAny_bind (wpAny_askSetting (wpAny_ite ?_))
  have fin : wpAny M A (call (.builtin "object.__ne__") ([.ref x] ++ args) >>= fun v => pure (some v)) Q E s := wpAny_bind (wpAny_mono h (fun v s' h' => wpAny_pure h') fun _ _ h' => h')
  split
  · exact wpAny_bind (wpAny_pure (wpAny_pure fin))
  · exact wpAny_tryCatch (wpAny_bind (wpAny_pure (wpAny_pure fin)))
theorem check_ne {M : Model} {Q : Unit → Shared → Prop} (X : K.In s.heap) (I : PySem.W.InstAt s.heap x ox C od) (hm : PySem.W.mroIn K C (.type "object") = some true) (hq : Q () s) :
    wpAny M A (checkBuiltinCall "object.__ne__" ⟨[.ref x, .ref y], []⟩) Q E s := by
  have L0 := I.type (M := M)
  have L1 := PySem.W.looks_mroIn (M := M) X hm
  simp only [checkBuiltinCall, F.cmpKind_ne, F.cmpSplit_ne]
  have ha := F.cmpArgs_ne (.ref x) (.ref y)
  refine wpAny_bind ?_
  unfold isInstance
  repeat lk
  exact hq
theorem rcNe_own (hu : A.units + 1 < cLine) (FF : Fr h₀ L s.heap m) (X₀ : K.In h₀) (I : PySem.W.InstAt s.heap x ox C od) (hb : PySem.W.Looks (model prog w) s.heap (typeOf (.ref y)) (.ref C))
    (hs : PySem.W.findIn K (.ref C) "__eq__" = some (some (.ref f))) (hf : PySem.W.isFn K (.ref f) = true) (hn : PySem.W.findIn K (.ref C) "__ne__" = some (some (.builtin "object.__ne__"))) (hm : PySem.W.mroIn K C (.type "object") = some true)
    {Q : Value → Shared → Prop} (hcall : wpAny (model prog w) A.in1 (call (.ref f) [.ref x, .ref y]) (fun v s' => ∃ b, v = .bool b ∧ Q (.bool (!b)) s') E s) :
    wpAny (model prog w) A (richCompare .NotEq (.ref x) (.ref y)) Q E s := by
  have X := X₀.keeps FF.keep
  have one : wpAny (model prog w) A (tryCompare (.ref x) (cmpInfo .NotEq).2.1 (.ref y)) (fun r s' => ∃ v, r = some v ∧ Q v s') E s := by
    show wpAny (model prog w) A (tryCompare (.ref x) "__ne__" (.ref y)) (fun r s' => ∃ v, r = some v ∧ Q v s') E s
    unfold tryCompare
    refine wpAny_bind (ifBound_ne X I hn (wpAny_call (codeAny_call_builtin F.cmp_object.ne.plain F.cmpEntry_ne (check_ne X I hm (objNe_own (A := A.in1) X I hs hf (by show A.units + 1 < cLine; exact hu) (wpAny_mono hcall (fun v s' hv => ?_) fun _ _ e => e))))))
    obtain ⟨b, rfl, hq⟩ := hv
    first | exact ⟨b, rfl, wpAny_pure ⟨_, rfl, hq⟩⟩ | exact ⟨b, rfl, wpAny_pure (wpAny_pure ⟨_, rfl, hq⟩)⟩ | exact ⟨b, rfl, ⟨_, rfl, hq⟩⟩
  unfold richCompare
  simp only [oneThing_ref]
  refine wpAny_holding (wpAny_bind (wpAny_cRoomFor (by omega) ?_))
  refine wpAny_bind (I.type.here (wpAny_bind (hb.here ?_)))
  rw [show (Value.ref C != Value.ref C) = false from by simp]
  simp only [Bool.false_eq_true, if_false]
  refine wpAny_bind (wpAny_pure ?_)
  simp only [Bool.false_eq_true, if_false]
  refine wpAny_bind (wpAny_mono one (fun r s' z => ?_) fun _ _ e => e)
  obtain ⟨v, rfl, hq⟩ := z
  first | exact wpAny_pure hq | exact hq
end
section
variable {X : Cx} {k j : Nat} {C : Addr} {sp : Sp}
theorem met_run {mth : Str} {pins : List (Addr × Obj)} {σ : L2.St} {H : Hp} {s : Shared} {A : Around} {a b : Addr} {Q : Value → Shared → Prop} (c : Met X.prog X.w X.K X.mg X.base k C mth sp []) (hr : Room k A) (hfr : A.frames = X.A.frames) (I : Inv X pins σ H s)
    {R : VK} (hsp : sp [.ref a, .ref b] H R C8.E0) (hQ : ∀ v z H' s', Inv X pins σ H' s' → RelV z v → R z H' → Q v s') :
    ∃ f, PySem.W.findIn X.K (.ref C) mth = some (some (.ref f)) ∧ PySem.W.isFn X.K (.ref f) = true ∧ wpAny (model X.prog X.w) A (call (.ref f) [.ref a, .ref b]) Q X.xe s := by
  obtain ⟨f, fd, ps, ds, hc, hm, F, hb, hd⟩ := c.ex
  refine ⟨f, hm.at_, hm.fn, ?_⟩
  have e0 : Env0 X.prog X.w X.K X.mg X.base A X.stack s H := by
    have e := I.env0
    exact ⟨by rw [hfr]; exact e.frames, e.mod, e.bs, e.bsz, e.funs, e.frf, e.hok, e.bare⟩
  have hds : ds = [] := by cases hd; rfl
  subst hds
  have hl := F.len _ _ _ _ hsp
  have r2 : Vals [V.ref a, V.ref b] [Value.ref a, Value.ref b] := .cons rfl (.cons rfl .nil)
  refine wpAny_call (codeAny_mono (F.run A X.stack s H ⟨[.ref a, .ref b], []⟩ [.ref a, .ref b] [.ref a, .ref b] _ C8.E0 hr e0 (by
    have := hb s [.ref a, .ref b] I.kIn (by simpa using hl)
    simpa using this) r2 hsp) fun r s' hq => ?_)
  cases r with
  | error e => exact C8.pass0 (E := C8.E0) pins σ H s e s' I hq
  | ok fl =>
    cases fl with
    | ret w =>
      obtain ⟨z, H', I', rz, q⟩ := I.after hq
      exact hQ w z H' s' I' rz q
    | next => exact False.elim hq
    | brk => exact False.elim hq
    | cont => exact False.elim hq
structure NeC (K : PySem.W.Frag) (C : Addr) : Prop where
  ne : PySem.W.findIn K (.ref C) "__ne__" = some (some (.builtin "object.__ne__"))
  ob : PySem.W.mroIn K C (.type "object") = some true
  sf : PySem.W.selfFirst K C = true
def rEqI (C : Addr) (sp : Sp) : R2 := fun x y H Q => ∃ a b dx dy fs gs, x = .ref a ∧ y = .ref b ∧ H a = some (.ins C dx fs) ∧ H b = some (.ins C dy gs) ∧ sp [.ref a, .ref b] H (fun v H' => ∃ r, v = .bl r ∧ Q (.bl r) H') C8.E0
def rNeI (C : Addr) (sp : Sp) : R2 := fun x y H Q => ∃ a b dx dy fs gs, x = .ref a ∧ y = .ref b ∧ H a = some (.ins C dx fs) ∧ H b = some (.ins C dy gs) ∧ sp [.ref a, .ref b] H (fun v H' => ∃ r, v = .bl r ∧ Q (.bl (!r)) H') C8.E0
def rOpI (C : Addr) (sp : Sp) : R2 := fun x y H Q => ∃ a b dx dy fs gs, x = .ref a ∧ y = .ref b ∧ H a = some (.ins C dx fs) ∧ H b = some (.ins C dy gs) ∧ sp [.ref a, .ref b] H (fun v H' => ∃ p, v = .ref p ∧ Q (.ref p) H') C8.E0
theorem op_eqI (c : Met X.prog X.w X.K X.mg X.base k C "__eq__" sp []) (hr : Room j X.A) (hk : k ≤ j) : OpR X (compareOp .Eq) (rEqI C sp) := by
  intro pins s σ H x y v u Q I rx ry h
  obtain ⟨a, b, dx, dy, fs, gs, rfl, rfl, ha, hb, hsp⟩ := h
  cases rx
  cases ry
  obtain ⟨mA, J, _⟩ := ins_get I.hok ha
  obtain ⟨mB, J', _⟩ := ins_get I.hok hb
  obtain ⟨od, J, _⟩ := J.look
  obtain ⟨od', J', _⟩ := J'.look
  obtain ⟨m, hF⟩ := I.fr
  obtain ⟨f, hs, hf, hw⟩ := met_run (Q := PySem.W.CmpBack (EP X pins σ Q)) c (hr.mono hk) rfl I hsp (fun v z H' s' I' rz q => by
    obtain ⟨r, rfl, q⟩ := q
    cases rz
    exact ⟨.bl r, H', I', rfl, q⟩)
  exact PySem.W.cmp_K (op := .Eq) (tb := .ref C) hr.units0 hF I.ok.mod.kin J J'.type (by simp [PySem.W.notFirst]) hs hf hw
theorem op_neI (n : NeC X.K C) (c : Met X.prog X.w X.K X.mg X.base k C "__eq__" sp []) (hr : Room j X.A) (hk : k + 1 ≤ j) : OpR X (compareOp .NotEq) (rNeI C sp) := by
  intro pins s σ H x y v u Q I rx ry h
  obtain ⟨a, b, dx, dy, fs, gs, rfl, rfl, ha, hb, hsp⟩ := h
  cases rx
  cases ry
  obtain ⟨mA, J, _⟩ := ins_get I.hok ha
  obtain ⟨mB, J', _⟩ := ins_get I.hok hb
  obtain ⟨od, J, _⟩ := J.look
  obtain ⟨od', J', _⟩ := J'.look
  obtain ⟨m, hF⟩ := I.fr
  obtain ⟨f, hs, hf, hw⟩ := met_run (Q := fun v s' => ∃ b, v = .bool b ∧ EP X pins σ Q (.bool (!b)) s') c (hr.mono hk).in1 rfl I hsp (fun v z H' s' I' rz q => by
    obtain ⟨r, rfl, q⟩ := q
    cases rz
    exact ⟨r, rfl, .bl (!r), H', I', rfl, q⟩)
  exact rcNe_own (hu_of hr) hF I.ok.mod.kin J J'.type hs hf n.ne n.ob hw
theorem op_mulI (n : NeC X.K C) (c : Met X.prog X.w X.K X.mg X.base k C "__mul__" sp []) (hr : Room j X.A) (hk : k ≤ j) : OpR X (binaryOp .Mult) (rOpI C sp) := by
  intro pins s σ H x y v u Q I rx ry h
  obtain ⟨a, b, dx, dy, fs, gs, rfl, rfl, ha, hb, hsp⟩ := h
  cases rx
  cases ry
  obtain ⟨mA, J, _⟩ := ins_get I.hok ha
  obtain ⟨mB, J', _⟩ := ins_get I.hok hb
  obtain ⟨od, J, _⟩ := J.look
  obtain ⟨od', J', _⟩ := J'.look
  obtain ⟨m, hF⟩ := I.fr
  obtain ⟨f, hs, hf, hw⟩ := met_run (Q := PySem.W.CmpBack (EP X pins σ Q)) c (hr.mono hk) rfl I hsp (fun v z H' s' I' rz q => by
    obtain ⟨p, rfl, q⟩ := q
    cases rz
    exact ⟨.ref p, H', I', rfl, q⟩)
  exact PySem.W.binop_K (op := .Mult) hF I.ok.mod.kin J J'.type n.sf hs hf hw
theorem op_addI (n : NeC X.K C) (c : Met X.prog X.w X.K X.mg X.base k C "__add__" sp []) (hr : Room j X.A) (hk : k ≤ j) : OpR X (binaryOp .Add) (rOpI C sp) := by
  intro pins s σ H x y v u Q I rx ry h
  obtain ⟨a, b, dx, dy, fs, gs, rfl, rfl, ha, hb, hsp⟩ := h
  cases rx
  cases ry
  obtain ⟨mA, J, _⟩ := ins_get I.hok ha
  obtain ⟨mB, J', _⟩ := ins_get I.hok hb
  obtain ⟨od, J, _⟩ := J.look
  obtain ⟨od', J', _⟩ := J'.look
  obtain ⟨m, hF⟩ := I.fr
  obtain ⟨f, hs, hf, hw⟩ := met_run (Q := PySem.W.CmpBack (EP X pins σ Q)) c (hr.mono hk) rfl I hsp (fun v z H' s' I' rz q => by
    obtain ⟨p, rfl, q⟩ := q
    cases rz
    exact ⟨.ref p, H', I', rfl, q⟩)
  exact PySem.W.binop_K (op := .Add) hF I.ok.mod.kin J J'.type n.sf hs hf hw
end
end LX
namespace LX
open PySem PySem.Spec PyProof.Rows L2 C8 SX
section
variable {X : Cx} {K : PySem.W.Frag} {H : Hp}
def txs (xs : List (List Nat)) : List V := xs.map fun l => V.str (S l)
theorem txs_len (xs : List (List Nat)) : (txs xs).length = xs.length := List.length_map ..
theorem dp_strs : ∀ xs : List (List Nat), DpAll K H (txs xs) (xs.map fun l => PyData.str (S l))
  | [] => .nil
  | x :: xs => .cons (.str _) (dp_strs xs)
theorem eqv_strs : ∀ xs ys : List (List Nat), PyData.eqvAll (xs.map fun l => PyData.str (S l)) (ys.map fun l => PyData.str (S l)) = decide (xs = ys)
  | [], [] => rfl
  | [], _ :: _ => rfl
  | _ :: _, [] => rfl
  | x :: xs, y :: ys => by
    show (S x == S y && PyData.eqvAll (xs.map fun l => PyData.str (S l)) (ys.map fun l => PyData.str (S l))) = _
    rw [S_beq_eq, eqv_strs xs ys, ← Bool.decide_and]
    exact decide_eq_decide.mpr (by rw [List.cons.injEq])
def Small (xs : List (List Nat)) : Prop := ∀ l ∈ xs, ∀ c ∈ l, c < 1114112
theorem lay_strs : ∀ {xs : List (List Nat)}, Small xs → PyData.canLayAll0 (xs.map fun l => PyData.str (S l)) = true ∧ PyData.depthAll (xs.map fun l => PyData.str (S l)) ≤ 1
  | [], _ => ⟨rfl, Nat.zero_le _⟩
  | x :: xs, h => by
    obtain ⟨h1, h2⟩ := lay_strs (xs := xs) fun l hl => h l (List.mem_cons_of_mem _ hl)
    refine ⟨?_, ?_⟩
    · show (PyData.canLay0 (.str (S x)) && PyData.canLayAll0 (xs.map fun l => PyData.str (S l))) = true
      rw [h1, Bool.and_true]
      show (S x).cps.all (· < 0x110000) = true
      rw [← Array.all_toList, List.all_eq_true]
      exact fun c hc => decide_eq_true (h x List.mem_cons_self c hc)
    · show max (PyData.depth (.str (S x))) (PyData.depthAll (xs.map fun l => PyData.str (S l))) ≤ 1
      have e : PyData.depth (.str (S x)) ≤ 1 := Nat.zero_le _
      omega
theorem shaped_lst {xs : List (List Nat)} (h : Small xs) : SeqAt.shaped (.list (xs.map fun l => PyData.str (S l))) = true := by
  obtain ⟨h1, h2⟩ := lay_strs h
  show (PyData.canLayAll0 _ && decide (PyData.depthAll _ + 1 ≤ 64)) = true
  rw [h1, Bool.true_and, decide_eq_true_eq]; omega
theorem shaped_tup {xs : List (List Nat)} (h : Small xs) : SeqAt.shaped (.tuple (xs.map fun l => PyData.str (S l))) = true := by
  obtain ⟨h1, h2⟩ := lay_strs h
  show (PyData.canLayAll0 _ && decide (PyData.depthAll _ + 1 ≤ 64)) = true
  rw [h1, Bool.true_and, decide_eq_true_eq]; omega
def rSs (K : PySem.W.Frag) (f : Bool → Bool) : R2 := fun x y H Q => ∃ (a b : Addr) (xs ys : List (List Nat)), x = .ref a ∧ y = .ref b ∧ ((SqL K H a (txs xs) ∧ SqL K H b (txs ys)) ∨ (SqT K H a (txs xs) ∧ SqT K H b (txs ys))) ∧ Small xs ∧ Small ys ∧ Q (.bl (f (decide (xs = ys)))) H
theorem op_eqSs {k : Nat} (hr : Room k X.A) : OpR X (compareOp .Eq) (rSs X.K fun b => b) := by
  intro pins s σ H x y v u Q I rx ry h
  obtain ⟨a, b, xs, ys, rfl, rfl, hh, hx, hy, q⟩ := h
  rcases hh with ⟨h1, h2⟩ | ⟨h1, h2⟩
  · exact op_eqD hr.units pins s σ H _ _ v u Q I rx ry ⟨_, _, .lst h1 (dp_strs xs), .lst h2 (dp_strs ys), shaped_lst hx, shaped_lst hy, by rw [show PyData.eqv (.list (xs.map fun l => PyData.str (S l))) (.list (ys.map fun l => PyData.str (S l))) = _ from eqv_strs xs ys]; exact q⟩
  · exact op_eqD hr.units pins s σ H _ _ v u Q I rx ry ⟨_, _, .tup h1 (dp_strs xs), .tup h2 (dp_strs ys), shaped_tup hx, shaped_tup hy, by rw [show PyData.eqv (.tuple (xs.map fun l => PyData.str (S l))) (.tuple (ys.map fun l => PyData.str (S l))) = _ from eqv_strs xs ys]; exact q⟩
theorem op_neSs {k : Nat} (hr : Room k X.A) : OpR X (compareOp .NotEq) (rSs X.K fun b => !b) := by
  intro pins s σ H x y v u Q I rx ry h
  obtain ⟨a, b, xs, ys, rfl, rfl, hh, hx, hy, q⟩ := h
  rcases hh with ⟨h1, h2⟩ | ⟨h1, h2⟩
  · exact op_neD hr.units pins s σ H _ _ v u Q I rx ry ⟨_, _, .lst h1 (dp_strs xs), .lst h2 (dp_strs ys), shaped_lst hx, shaped_lst hy, by rw [show PyData.eqv (.list (xs.map fun l => PyData.str (S l))) (.list (ys.map fun l => PyData.str (S l))) = _ from eqv_strs xs ys]; exact q⟩
  · exact op_neD hr.units pins s σ H _ _ v u Q I rx ry ⟨_, _, .tup h1 (dp_strs xs), .tup h2 (dp_strs ys), shaped_tup hx, shaped_tup hy, by rw [show PyData.eqv (.tuple (xs.map fun l => PyData.str (S l))) (.tuple (ys.map fun l => PyData.str (S l))) = _ from eqv_strs xs ys]; exact q⟩
end
theorem occ_idx {l : List Nat} {c : Nat} (h : c ∈ l) : ∃ r, Builtin.Str.occurrences (S l) (S [c]) 0 (S l).length 1 = l.idxOf c :: r := by
  have hlt := List.idxOf_lt_length_of_mem h
  have hat : StrLaws.At (S l) (S [c]) (S l).length (l.idxOf c) := (StrLaws.subAt_one (S l) c _).mpr (by show l[l.idxOf c]? = some c; rw [List.getElem?_eq_getElem hlt, List.getElem_idxOf hlt])
  rcases StrLaws.occ_head (S l) (S [c]) 1 (Nat.le_refl _) with ⟨_, hn⟩ | ⟨i, r, e, ha, hn⟩
  · exact absurd hat (hn _)
  · refine ⟨r, ?_⟩
    have hi : l[i]? = some c := (StrLaws.subAt_one (S l) c i).mp ha
    have h1 : ¬ l.idxOf c < i := fun z => hn _ z hat
    have h2 : ¬ i < l.idxOf c := fun z => by
      obtain ⟨hl, e⟩ := List.getElem?_eq_some_iff.mp hi
      have q := List.not_of_lt_findIdx (p := (· == c)) (xs := l) z
      simp [e] at q
    have : i = l.idxOf c := by omega
    rw [e, this]
structure Keep (Rel : Hp → Hp → Prop) (H1 : Hp) : Prop where
  refl : Rel H1 H1
  trans : ∀ H H', Rel H1 H → Rel H H' → Rel H1 H'
  put : ∀ H D o, Rel H1 H → H1 D = none → Rel H1 (upd H D o)
  get : ∀ H H' D o, Rel H H' → H1 D = none → Rel H1 H → H D = some o → H' D = some o
theorem keep_same {H1 : Hp} : Keep Same H1 where
  refl := Same.refl _
  trans := fun _ _ a b => a.trans b
  put := fun H D o s hD b u e => by rw [upd_ne (ne_of_none e hD)]; exact s b u e
  get := fun H H' D o s _ _ e => s _ _ e
def Bk (Pb : HO → Prop) (b : Addr) (H H' : Hp) : Prop := (∀ a o, a ≠ b → H a = some o → H' a = some o) ∧ ∃ o, H' b = some o ∧ Pb o
theorem keep_bk {Pb : HO → Prop} {b : Addr} {H1 : Hp} (h : ∃ o, H1 b = some o ∧ Pb o) : Keep (Bk Pb b) H1 where
  refl := ⟨fun _ _ _ e => e, h⟩
  trans := fun _ _ p q => ⟨fun a o n e => q.1 a o n (p.1 a o n e), q.2⟩
  put := fun H D o s hD => by
    obtain ⟨o1, e1, _⟩ := h
    refine ⟨fun a u n e => by rw [upd_ne (ne_of_none e hD)]; exact s.1 a u n e, ?_⟩
    rw [upd_ne (ne_of_none e1 hD)]
    exact s.2
  get := fun H H' D o s hD _ e => by
    obtain ⟨o1, e1, _⟩ := h
    exact s.1 D o (ne_of_none e1 hD).symm e
theorem bk_same {Pb : HO → Prop} {b : Addr} {H H' : Hp} (s : Same H H') (h : ∃ o, H b = some o ∧ Pb o) : Bk Pb b H H' := ⟨fun a o _ e => s a o e, let ⟨o, e, p⟩ := h; ⟨o, s b o e, p⟩⟩
theorem sm_put {H H' : Hp} {p : Addr} {o : HO} (s : Same H H') (h : H p = none) : Same H (upd H' p o) := fun b u e => by rw [upd_ne (ne_of_none e h)]; exact s b u e
theorem sm_put' {H H' : Hp} {p : Addr} {o : HO} (s : Same H H') (h : H' p = none) : Same H (upd H' p o) := sm_put s (s.free h)
theorem sm_new {H : Hp} {p : Addr} {o : HO} (h : H p = none) : Same H (upd H p o) := sm_put (Same.refl H) h
theorem sm_seqT {K : PySem.W.Frag} {H H' : Hp} {a : Addr} {xs : List V} (e : Same H H') (h : SqT K H a xs) : SqT K H' a xs :=
  h.elim (fun h => .inl (h.elim (fun h => .inl (e _ _ h)) fun ⟨o, h⟩ => .inr ⟨o, e _ _ h⟩)) fun h => .inr h
theorem bk_seq {Pb : HO → Prop} {K : PySem.W.Frag} {b : Addr} {H H' : Hp} {a : Addr} {xs : List V} (e : Bk Pb b H H') (n : a ≠ b) (h : SqL K H a xs) : SqL K H' a xs := by
  rcases h with (h | ⟨o, h⟩) | h
  · exact .inl (.inl (e.1 _ _ n h))
  · exact .inl (.inr ⟨o, e.1 _ _ n h⟩)
  · exact .inr h
theorem lc_keep {Rel : Hp → Hp → Prop} {J : It} {n : Nat} {G : Hp → Prop} {Y : Nat → Hp → V → Hp → Prop} {H1 : Hp} (kp : Keep Rel H1) (w : Walk J n G Y) {g : TG} {te : TE} {vs : List Nat} {σ : L2.St} {D : Addr} {Qd : Hp → Prop} (hD : H1 D = none) (hn : n < sizeLine)
    (Good : Nat → V → Prop) (hG : ∀ H, Rel H1 H → G H)
    (hs : ∀ i x H H' (R : V → Hp → Prop), i < n → Rel H1 H → Y i H x H' → (∀ y H4, Rel H H4 → Good i y → R y H4) → g x (wipe σ vs) H' fun σ2 H2 => wipe σ2 vs = wipe σ vs ∧ te σ2 H2 R)
    (hd : ∀ ys H, ys.length = n → (∀ (j : Nat) y, ys[j]? = some y → Good j y) → Rel H1 H → H D = some (.lst ys) → Qd H) :
    ∃ W : Nat → Nat → Hp → Prop, (∃ m, W 0 m (upd H1 D (.lst []))) ∧ ∀ i m H, W i m H →
      (J.stop i H ∧ Qd H) ∨ (J.go i H ∧ ∃ Nx : Hp → Prop, (∀ H', Nx H' → ∃ m', m' < m ∧ W (i + 1) m' H') ∧ ∀ x H', J.yld i H x H' → g x (wipe σ vs) H' fun σ2 H2 => wipe σ2 vs = wipe σ vs ∧ tYes σ2 H2 fun b H3 =>
        if b = true then te σ2 H3 fun y H4 => ∃ acc, H4 D = some (.lst acc) ∧ acc.length < sizeLine ∧ Nx (upd H4 D (.lst (acc ++ [y]))) else Nx H3) := by
  refine lc_it w (fun i H => ∃ acc, acc.length = i ∧ H D = some (.lst acc) ∧ Rel H1 H ∧ ∀ (j : Nat) y, acc[j]? = some y → Good j y) ⟨[], rfl, upd_same, kp.put _ _ _ kp.refl hD, fun j y e => by simp at e⟩ (fun i H _ ⟨_, _, _, r, _⟩ => hG H r) (fun i x H H' hi ⟨acc, hl, hDa, r, hg⟩ hy => ?_) (fun H ⟨acc, hl, hDa, r, hg⟩ => hd acc H hl hg r hDa)
  refine hs i x H H' _ hi r hy fun y H4 r4 gy => ?_
  refine ⟨acc, kp.get _ _ _ _ r4 hD r hDa, by omega, acc ++ [y], by simp [hl], upd_same, kp.put _ _ _ (kp.trans _ _ r r4) hD, fun j z e => ?_⟩
  rcases Nat.lt_or_ge j acc.length with h | h
  · rw [List.getElem?_append_left h] at e
    exact hg j z e
  · rw [List.getElem?_append_right h] at e
    have hj : j - acc.length = 0 := by
      rcases Nat.lt_or_ge (j - acc.length) 1 with z | z
      · omega
      · rw [List.getElem?_eq_none (by simpa using z)] at e; cases e
    rw [hj] at e
    have : y = z := Option.some.inj e
    subst this
    have : j = i := by omega
    subst this
    exact gy
theorem list_of {α : Type} {ys : List α} {n : Nat} {f : Nat → α} (hl : ys.length = n) (h : ∀ (j : Nat) y, ys[j]? = some y → y = f j) : ys = (List.range n).map f := by
  apply List.ext_getElem
  · simp [hl]
  · intro i h1 h2
    rw [List.getElem_map, List.getElem_range]
    exact h i _ (List.getElem?_eq_getElem h1)
theorem list_map {α β : Type} {ys : List β} {xs : List α} {f : α → β} (hl : ys.length = xs.length) (h : ∀ (j : Nat) y x, ys[j]? = some y → xs[j]? = some x → y = f x) : ys = xs.map f := by
  apply List.ext_getElem
  · simp [hl]
  · intro i h1 h2
    rw [List.getElem_map]
    exact h i _ _ (List.getElem?_eq_getElem h1) (List.getElem?_eq_getElem (by omega))
end LX
namespace LX
open PySem PySem.Spec PyProof.Rows L2 C8 SX
section
variable {X : Cx}
theorem ixl (K : PySem.W.Frag) (h : X.K = K := by rfl) : IxR X (rIxL K) := by subst h; exact ix_list
theorem ixt (K : PySem.W.Frag) (h : X.K = K := by rfl) : IxR X (rIxT K) := by subst h; exact ix_tup
theorem lenK (K : PySem.W.Frag) (h : X.K = K := by rfl) : CallR X (.builtin "len") (fun xs H Q => ∃ p ys, xs = [.ref p] ∧ (SqL K H p ys ∨ SqT K H p ys) ∧ Q (.int ys.length) H) := by subst h; exact call_len_seq
theorem listK (K : PySem.W.Frag) (h : X.K = K := by rfl) : CallR X (.type "list") (fun xs H Q => ∃ p ys, xs = [.ref p] ∧ (SqL K H p ys ∨ SqT K H p ys) ∧ ∀ l, H l = none → Q (.ref l) (upd H l (.lst ys))) := by subst h; exact call_list_of
theorem tupleK (K : PySem.W.Frag) (h : X.K = K := by rfl) : CallR X (.type "tuple") (fun xs H Q => ∃ p ys, xs = [.ref p] ∧ ((SqL K H p ys ∧ ∀ l, H l = none → Q (.ref l) (upd H l (.tup ys))) ∨ (SqT K H p ys ∧ Q (.ref p) H))) := by subst h; exact call_tuple_of
theorem isiK (K : PySem.W.Frag) (h : X.K = K := by rfl) : CallR X (.builtin "isinstance") (rIsi K) := by subst h; exact call_isi
theorem isiTK (K : PySem.W.Frag) (h : X.K = K := by rfl) : CallR X (.builtin "isinstance") (rIsiT K) := by subst h; exact call_isiT
theorem fldK (K : PySem.W.Frag) {o : Expr} {f : Str} {pos : Pos} {ta : TE} (ha : PE X o ta) (hb : attributeBase o f X.env (eval o X.env) = eval o X.env) (h : X.K = K := by rfl) : PE X (.Attribute o f pos) (tFld K ta f) := by subst h; exact pe_fld ha hb
theorem tupK (K : PySem.W.Frag) {es : List Expr} {k : Nat} {pos : Pos} {t : TGs} (n : Nat) (h : PGs X es t) (hc : X.calm = true := by rfl)
    (hn : (assignEach es X.env).length = n := by rfl) (hst : (assignEach es X.env).findIdx? (·.1) = none := by rfl) (hK : X.K = K := by rfl) : PG X (.Tuple es k pos) (gTup K n t) := by subst hK; exact pg_tup hc h hn hst
theorem unlK (K : PySem.W.Frag) {es : List Expr} {k : Nat} {pos : Pos} {t : TGs} (n : Nat) (h : PGs X es t) (hc : X.calm = true := by rfl)
    (hn : (assignEach es X.env).length = n := by rfl) (hst : (assignEach es X.env).findIdx? (·.1) = none := by rfl) (hK : X.K = K := by rfl) : PG X (.Tuple es k pos) (gUnl K n t) := by subst hK; exact pg_unl hc h hn hst
end
def Sr.is (K : PySem.W.Frag) (H : Hp) (xs : List V) : Sr → Prop
  | .txt x => xs = x.cps.toList.map fun c => V.str ⟨#[c]⟩
  | .lst a => SqL K H a xs
  | .tup a => SqT K H a xs
theorem Sr.is_there {K : PySem.W.Frag} {H : Hp} {xs : List V} : ∀ {S : Sr}, S.is K H xs → S.there K H
  | .txt _, _ => trivial
  | .lst _, h => ⟨xs, h⟩
  | .tup _, h => ⟨xs, h⟩
theorem Sr.is_has {K : PySem.W.Frag} {H : Hp} {xs : List V} {i : Nat} (hi : i < xs.length) : ∀ {S : Sr}, S.is K H xs → S.has K i H
  | .txt x, h => by
    have h' : xs = x.cps.toList.map fun c => V.str ⟨#[c]⟩ := h
    rw [h', List.length_map] at hi
    show i < x.cps.size; simpa using hi
  | .lst _, h => ⟨xs, h, hi⟩
  | .tup _, h => ⟨xs, h, hi⟩
theorem Sr.is_upto {K : PySem.W.Frag} {H : Hp} {xs : List V} {i : Nat} (hi : i ≤ xs.length) : ∀ {S : Sr}, S.is K H xs → S.upto K i H
  | .txt x, h => by
    have h' : xs = x.cps.toList.map fun c => V.str ⟨#[c]⟩ := h
    rw [h', List.length_map] at hi
    show i ≤ x.cps.size; simpa using hi
  | .lst _, h => ⟨xs, h, hi⟩
  | .tup _, h => ⟨xs, h, hi⟩
theorem Sr.is_ends {K : PySem.W.Frag} {H : Hp} {xs : List V} {i : Nat} (hi : i = xs.length) : ∀ {S : Sr}, S.is K H xs → S.ends K i H
  | .txt x, h => by
    have h' : xs = x.cps.toList.map fun c => V.str ⟨#[c]⟩ := h
    rw [h', List.length_map] at hi
    show i = x.cps.size; simpa using hi
  | .lst _, h => ⟨xs, h, hi⟩
  | .tup _, h => ⟨xs, h, hi⟩
theorem Sr.is_val {K : PySem.W.Frag} {H : Hp} {xs : List V} {i : Nat} {v : V} : ∀ {S : Sr}, S.is K H xs → S.val K i H v → xs[i]? = some v
  | .txt x, h, ⟨c, e, ev⟩ => by
    have h' : xs = x.cps.toList.map fun c => V.str ⟨#[c]⟩ := h
    have e' : x.cps.toList[i]? = some c := by simpa using e
    rw [h', List.getElem?_map, e', ev]; rfl
  | .lst _, h, e => e xs h
  | .tup _, h, e => e xs h
theorem walk_zipX {K : PySem.W.Frag} {S1 S2 : Sr} {xs ys : List V} : Walk (ItzX K S1 S2) (min xs.length ys.length) (fun H => S1.is K H xs ∧ S2.is K H ys) (YPair (fun i => xs[i]?) (fun i => ys[i]?)) := by
  refine ⟨fun i _ hi q => ⟨Sr.is_has (by omega) q.1, Sr.is_has (by omega) q.2⟩, fun _ q => ⟨Sr.is_upto (by omega) q.1, Sr.is_upto (by omega) q.2, ?_⟩, fun i H v H' _ q y => ?_⟩
  · rcases Nat.le_total xs.length ys.length with h | h
    · exact .inl (Sr.is_ends (by omega) q.1)
    · exact .inr (Sr.is_ends (by omega) q.2)
  · obtain ⟨T, x, z, h1, h2, h3, h4, h5⟩ := y
    exact ⟨T, x, z, h1, h2, h3, Sr.is_val q.1 h4, Sr.is_val q.2 h5⟩
end LX
namespace LX
open PySem PySem.Spec PyProof.Rows L2 C8 SX
theorem lc_keepH {Rel : Hp → Hp → Prop} {J : It} {n : Nat} {G : Hp → Prop} {Y : Nat → Hp → V → Hp → Prop} {H1 : Hp} (kp : Keep Rel H1) (w : Walk J n G Y) {g : TG} {te : TE} {vs : List Nat} {σ : L2.St} {D : Addr} {Qd : Hp → Prop} (hD : H1 D = none) (hn : n < sizeLine)
    (Good : Nat → V → Hp → Prop) (hG : ∀ H, Rel H1 H → G H)
    (st : ∀ i y H H', Rel H1 H → Rel H H' → Good i y H → Good i y H') (pt : ∀ i y H acc o, Rel H1 H → H D = some (.lst acc) → Good i y H → Good i y (upd H D o))
    (hs : ∀ i x H H' acc (R : V → Hp → Prop), i < n → Rel H1 H → H D = some (.lst acc) → Y i H x H' → (∀ y H4, Rel H H4 → Good i y H4 → R y H4) → g x (wipe σ vs) H' fun σ2 H2 => wipe σ2 vs = wipe σ vs ∧ te σ2 H2 R)
    (hd : ∀ ys H, ys.length = n → (∀ (j : Nat) y, ys[j]? = some y → Good j y H) → Rel H1 H → H D = some (.lst ys) → Qd H) :
    ∃ W : Nat → Nat → Hp → Prop, (∃ m, W 0 m (upd H1 D (.lst []))) ∧ ∀ i m H, W i m H →
      (J.stop i H ∧ Qd H) ∨ (J.go i H ∧ ∃ Nx : Hp → Prop, (∀ H', Nx H' → ∃ m', m' < m ∧ W (i + 1) m' H') ∧ ∀ x H', J.yld i H x H' → g x (wipe σ vs) H' fun σ2 H2 => wipe σ2 vs = wipe σ vs ∧ tYes σ2 H2 fun b H3 =>
        if b = true then te σ2 H3 fun y H4 => ∃ acc, H4 D = some (.lst acc) ∧ acc.length < sizeLine ∧ Nx (upd H4 D (.lst (acc ++ [y]))) else Nx H3) := by
  refine lc_it w (fun i H => ∃ acc, acc.length = i ∧ H D = some (.lst acc) ∧ Rel H1 H ∧ ∀ (j : Nat) y, acc[j]? = some y → Good j y H) ⟨[], rfl, upd_same, kp.put _ _ _ kp.refl hD, fun j y e => by simp at e⟩ (fun i H _ ⟨_, _, _, r, _⟩ => hG H r) (fun i x H H' hi ⟨acc, hl, hDa, r, hg⟩ hy => ?_) (fun H ⟨acc, hl, hDa, r, hg⟩ => hd acc H hl hg r hDa)
  refine hs i x H H' acc _ hi r hDa hy fun y H4 r4 gy => ?_
  have hD4 := kp.get _ _ _ _ r4 hD r hDa
  have r5 := kp.trans _ _ r r4
  refine ⟨acc, hD4, by omega, acc ++ [y], by simp [hl], upd_same, kp.put _ _ _ r5 hD, fun j z e => ?_⟩
  rcases Nat.lt_or_ge j acc.length with h | h
  · rw [List.getElem?_append_left h] at e
    exact pt _ _ _ _ _ r5 hD4 (st _ _ _ _ r r4 (hg j z e))
  · rw [List.getElem?_append_right h] at e
    have hj : j - acc.length = 0 := by
      rcases Nat.lt_or_ge (j - acc.length) 1 with z | z
      · omega
      · rw [List.getElem?_eq_none (by simpa using z)] at e; cases e
    rw [hj] at e
    have : y = z := Option.some.inj e
    subst this
    have : j = i := by omega
    subst this
    exact pt _ _ _ _ _ r5 hD4 gy
end LX
namespace LX
open PySem PySem.Spec PyProof.Rows L2 C8 SX
def bx (x y z : Int) : HO := .lst [.int x, .int y, .int z]
def isBx (o : HO) : Prop := ∃ x y z : Int, o = bx x y z
def BoxAt (b : Addr) (H : Hp) : Prop := ∃ o, H b = some o ∧ isBx o
abbrev Bx (b : Addr) : Hp → Hp → Prop := Bk isBx b
theorem Bx.box {b : Addr} {H H' : Hp} (h : Bx b H H') : BoxAt b H' := h.2
theorem BoxAt.of {b : Addr} {H : Hp} {x y z : Int} (h : H b = some (bx x y z)) : BoxAt b H := ⟨_, h, _, _, _, rfl⟩
theorem Bx.mk {b : Addr} {H : Hp} (x y z : Int) : Bx b H (upd H b (bx x y z)) := ⟨fun a o n e => by rw [upd_ne n]; exact e, _, upd_same, _, _, _, rfl⟩
theorem Bx.trans {b : Addr} {H H1 H2 : Hp} (p : Bx b H H1) (q : Bx b H1 H2) : Bx b H H2 := ⟨fun a o n e => q.1 a o n (p.1 a o n e), q.2⟩
theorem box_ne {b p : Addr} {H : Hp} (h : BoxAt b H) (n : H p = none) : p ≠ b := by
  obtain ⟨o, e, _⟩ := h
  exact (ne_of_none e n).symm
theorem Bx.put {b p : Addr} {H H1 : Hp} {o : HO} (s : Bx b H H1) (h : BoxAt b H) (n : H p = none) : Bx b H (upd H1 p o) := (keep_bk h).put _ _ _ s n
theorem Bx.free {b p : Addr} {H H1 : Hp} (s : Bx b H H1) (n : H1 p = none) : H p = none := by
  cases q : H p with
  | none => rfl
  | some o =>
    by_cases e : p = b
    · subst e; obtain ⟨u, z, _⟩ := s.2; rw [n] at z; cases z
    · rw [s.1 p o e q] at n; cases n
theorem nil1 {σ : L2.St} {H : Hp} {R : List V → Hp → Prop} (h : R [] H) : tNil σ H R := h
theorem consc {v : V} {σ : L2.St} {H : Hp} {R : List V → Hp → Prop} (h : R [v] H) : tCons (tC v) tNil σ H R := h
theorem tc1 {v : V} {σ : L2.St} {H : Hp} {Q : VK} (h : Q v H) : tC v σ H Q := h
theorem ne_str {l r : Str} {H : Hp} {R : VK} (e : l = r) (h : R (.bl false) H) : rNe (.str l) (.str r) H R := ⟨rfl, by rw [decide_eq_true (by rw [e])]; exact h⟩
theorem bl_f {p : Bool → Prop} (h : p false) : ∃ k, V.bl false = V.bl k ∧ p k := ⟨false, rfl, h⟩
theorem if_f {p q : Prop} (h : q) : if false = true then p else q := h
theorem iteB {c : Bool} {A B : Prop} (hc : c = true) (h : A) : if c = true then A else B := by rw [if_pos hc]; exact h
theorem iteN {c : Bool} {A B : Prop} (hc : c = false) (h : B) : if c = true then A else B := by rw [hc]; exact iteF h
theorem perm_at {α : Type} : ∀ {xs : List α} {i : Nat} (h : i < xs.length), (xs[i] :: xs.eraseIdx i).Perm xs
  | x :: xs, 0, _ => List.Perm.refl _
  | x :: xs, i + 1, h => (List.Perm.swap x _ _).trans ((perm_at (xs := xs) (i := i) (Nat.lt_of_succ_lt_succ h)).cons x)
theorem eraseIdx_map' {α β : Type} (f : α → β) : ∀ (xs : List α) (i : Nat), (xs.map f).eraseIdx i = (xs.eraseIdx i).map f
  | [], i => by cases i <;> rfl
  | x :: xs, 0 => rfl
  | x :: xs, i + 1 => congrArg (f x :: ·) (eraseIdx_map' f xs i)
theorem perm_map_inv {α β : Type} {f : α → β} {g : β → α} (hg : ∀ a, g (f a) = a) {ys : List β} {xs : List α} (h : ys.Perm (xs.map f)) : ∃ zs : List α, ys = zs.map f ∧ zs.Perm xs := by
  refine ⟨ys.map g, ?_, ?_⟩
  · rw [List.map_map]
    have : ys.map (f ∘ g) = ys.map id := List.map_congr_left fun y hy => by
      obtain ⟨a, _, rfl⟩ := List.mem_map.mp (h.subset hy)
      show f (g (f a)) = f a
      rw [hg]
    rw [this, List.map_id]
  · have e := h.map g
    rw [List.map_map] at e
    have : xs.map (g ∘ f) = xs.map id := List.map_congr_left fun a _ => hg a
    rw [this, List.map_id] at e
    exact e
theorem sums_singles : ∀ l : List Nat, ((l.map fun c => S [c]).map (·.length)).sum = l.length
  | [] => rfl
  | c :: l => by simp only [List.map_cons, List.sum_cons, sums_singles l, List.length_cons]; rw [S_len]; simp; omega
theorem join_nil : ∀ ys : List (List Nat), TL.joinL [] ys = ys.flatten
  | [] => rfl
  | [y] => by simp [TL.joinL]
  | y :: z :: ys => by
    have ih := join_nil (z :: ys)
    simp [TL.joinL] at ih ⊢
    exact ih
theorem join_txs (ys : List (List Nat)) : Txt.join (S []) (ys.map S) = S ys.flatten := by rw [join_S, join_nil]
theorem flat_singles : ∀ l : List Nat, (l.map fun c => [c]).flatten = l
  | [] => rfl
  | c :: l => by rw [List.map_cons, List.flatten_cons, flat_singles l]; rfl
theorem join_singles (l : List Nat) : Txt.join (S []) (l.map fun c => S [c]) = S l := by
  have e1 : (l.map fun c => S [c]) = (l.map fun c => [c]).map S := by rw [List.map_map]; rfl
  rw [e1, join_txs, flat_singles]
theorem rising_singles : ∀ (ds : List Nat) (c : Nat), risingS (S [c]) (ds.map fun d => S [d]) = true → (∀ d ∈ ds, c ≤ d) ∧ ds.Pairwise (· ≤ ·)
  | [], _, _ => ⟨fun _ h => (nomatch h), .nil⟩
  | d :: ds, c, h => by
    have h' : (!ltCps [d] [c] && risingS (S [d]) (ds.map fun d => S [d])) = true := h
    rw [Bool.and_eq_true, Bool.not_eq_true'] at h'
    obtain ⟨h1, h2⟩ := h'
    obtain ⟨i1, i2⟩ := rising_singles ds d h2
    have hcd : c ≤ d := by
      rcases Nat.lt_or_ge d c with q | q
      · simp [ltCps, q] at h1
      · exact q
    refine ⟨fun e he => ?_, List.pairwise_cons.mpr ⟨i1, i2⟩⟩
    rcases List.mem_cons.mp he with rfl | he
    · exact hcd
    · exact Nat.le_trans hcd (i1 e he)
theorem sorted_singles {ds : List Nat} (h : sortedS (ds.map fun d => S [d]) = true) : ds.Pairwise (· ≤ ·) := by
  cases ds with
  | nil => exact .nil
  | cons d ds =>
    obtain ⟨i1, i2⟩ := rising_singles ds d h
    exact List.pairwise_cons.mpr ⟨i1, i2⟩
theorem strict_of {ds : List Nat} (h : ds.Pairwise (· ≤ ·)) (n : ds.Nodup) : ds.Pairwise (· < ·) :=
  (h.and n).imp fun ⟨a, b⟩ => Nat.lt_of_le_of_ne a b
open Classical in
theorem fun_of {α γ : Type} [DecidableEq α] [Inhabited γ] {sg : List α} (n : sg.Nodup) {P : Nat → α → γ → Prop} (h : ∀ j c, sg[j]? = some c → ∃ v, P j c v) : ∃ g : α → γ, ∀ j c, sg[j]? = some c → P j c (g c) := by
  refine ⟨fun c => if q : ∃ v, P (sg.idxOf c) c v then q.choose else default, fun j c e => ?_⟩
  have hj : j = sg.idxOf c := by
    obtain ⟨hl, e2⟩ := List.getElem?_eq_some_iff.mp e
    subst e2
    exact (n.idxOf_getElem j hl).symm
  have q : ∃ v, P (sg.idxOf c) c v := hj ▸ h j c e
  show P j c (dite _ _ _)
  rw [dif_pos q, hj]
  exact q.choose_spec
theorem paired_map {α β γ : Type} {R : α → β → Prop} {f : γ → α} {g : γ → β} : ∀ {l : List γ}, (∀ c ∈ l, R (f c) (g c)) → Paired R (l.map f) (l.map g)
  | [], _ => .nil
  | c :: l, h => .cons (h c List.mem_cons_self) (paired_map fun d hd => h d (List.mem_cons_of_mem _ hd))
abbrev tk (l : List Nat) : Key := Sum.inr (S l)
theorem tk_inj {l r : List Nat} (h : tk l = tk r) : l = r := by
  have e : S l = S r := Sum.inr.inj h
  have : (S l).cps.toList = (S r).cps.toList := by rw [e]
  simpa [S] using this
theorem valV_none {kvs : List (Key × V)} {k : Key} (h : ∀ p ∈ kvs, p.1 ≠ k) : valV kvs k = none := by
  unfold valV
  rw [List.find?_eq_none.mpr fun p hp => by simpa using h p hp]
  rfl
theorem valV_map' {α : Type} [DecidableEq α] {key : α → Key} (inj : ∀ a b, key a = key b → a = b) {f : α → V} : ∀ {l : List α} {c : α}, c ∈ l → valV (l.map fun a => (key a, f a)) (key c) = some (f c)
  | a :: l, c, h => by
    by_cases e : a = c
    · subst e; exact valV_pos rfl
    · rw [List.map_cons, valV_neg (fun q => e (inj _ _ q))]
      refine valV_map' inj ?_
      rcases List.mem_cons.mp h with q | q
      · exact absurd q.symm e
      · exact q
theorem merge_new : ∀ {more kvs : List (Key × V)}, (∀ p ∈ more, ∀ q ∈ kvs, q.1 ≠ p.1) → (more.map (·.1)).Nodup → mergeK kvs more = kvs ++ more
  | [], kvs, _, _ => by rw [List.append_nil]; rfl
  | p :: more, kvs, h, n => by
    have e : putK kvs p.1 p.2 = kvs ++ [p] := putK_new _ (valV_none fun q hq => h p List.mem_cons_self q hq)
    show mergeK (putK kvs p.1 p.2) more = _
    rw [List.map_cons, List.nodup_cons] at n
    rw [e, merge_new (fun r hr q hq => ?_) n.2, List.append_assoc]
    · rfl
    · rcases List.mem_append.mp hq with hq | hq
      · exact h r (List.mem_cons_of_mem _ hr) q hq
      · rw [List.mem_singleton] at hq
        subst hq
        exact fun e => n.1 (e ▸ List.mem_map_of_mem hr)
theorem merge_nil {more : List (Key × V)} (n : (more.map (·.1)).Nodup) : mergeK [] more = more := by
  rw [merge_new (fun _ _ q h => absurd h List.not_mem_nil) n]; rfl
theorem nodup_keys {α : Type} {key : α → Key} (inj : ∀ a b, key a = key b → a = b) {f : α → V} {l : List α} (n : l.Nodup) : ((l.map fun a => (key a, f a)).map (·.1)).Nodup := by
  rw [List.map_map]
  exact List.pairwise_map.mpr (n.imp fun h e => h (inj _ _ e))
theorem cut_to (ys : List (List Nat)) (k : Nat) : cutV (txs ys) none (some (k : Int)) = txs (ys.take k) := by
  unfold cutV
  rw [HT.sIx_none, HT.sIx_nat, List.drop_zero, Nat.sub_zero, txs_len]
  unfold txs
  rw [← List.map_take]
  rcases Nat.le_total k ys.length with h | h
  · rw [Nat.min_eq_left h]
  · rw [Nat.min_eq_right h, List.take_length, List.take_of_length_le h]
theorem tup_ne_box {H : Hp} {t b : Addr} {xs : List V} (hb : BoxAt b H) (ht : H t = some (.tup xs)) : t ≠ b := by
  obtain ⟨o, e, x, y, z, rfl⟩ := hb
  exact ne_of ht e (by intro h; cases h)
theorem dict_ne_box {H : Hp} {t b : Addr} {xs : List (Key × V)} (hb : BoxAt b H) (ht : H t = some (.dK xs)) : t ≠ b := by
  obtain ⟨o, e, x, y, z, rfl⟩ := hb
  exact ne_of ht e (by intro h; cases h)
theorem not_in_take {α : Type} [DecidableEq α] {ms : List α} {i : Nat} {m : α} (n : ms.Nodup) (h : ms[i]? = some m) : m ∉ ms.take i := fun hm => by
  obtain ⟨j, hj⟩ := List.getElem?_of_mem hm
  have hji : j < i := by
    have := (List.getElem?_eq_some_iff.mp hj).1
    rw [List.length_take] at this; omega
  rw [List.getElem?_take_of_lt hji] at hj
  have h1 := (List.getElem?_eq_some_iff.mp h)
  have h2 := (List.getElem?_eq_some_iff.mp hj)
  obtain ⟨a1, a2⟩ := h1
  obtain ⟨b1, b2⟩ := h2
  have e1 : ms.idxOf m = i := by subst a2; exact n.idxOf_getElem i a1
  have e2 : ms.idxOf m = j := by subst b2; exact n.idxOf_getElem j b1
  omega
theorem take_more {α : Type} {ms : List α} {i : Nat} {m : α} (h : ms[i]? = some m) : ms.take (i + 1) = ms.take i ++ [m] := by
  rw [List.take_succ, h]; rfl
theorem sz {n m : Nat} (h : n ≤ m) (hm : m ≤ 1000) : n ≤ sizeLine := Nat.le_trans (Nat.le_trans h hm) (show 1000 ≤ sizeLine by decide)
end LX
set_option maxHeartbeats 1000000
namespace Toy
open PySem L2 C8 SX LX
def top (i : Nat) : Stmt := PySem.Challenge.pw_allrows_k14_alike_marks.main.body.getD i (.Pass ⟨0, 0, 0, 0⟩)
structure BT (mg : Str → Option Value) : Prop where
  m_int : mg "int" = none
  m_len : mg "len" = none
  m_abs : mg "abs" = none
  m_str : mg "str" = none
  m_list : mg "list" = none
  m_tuple : mg "tuple" = none
  m_dict : mg "dict" = none
  m_set : mg "set" = none
  m_isinstance : mg "isinstance" = none
  m_all : mg "all" = none
  m_zip : mg "zip" = none
  m_enumerate : mg "enumerate" = none
  m_range : mg "range" = none
  m_max : mg "max" = none
  m_min : mg "min" = none
  m_sorted : mg "sorted" = none
  m_repr : mg "repr" = none
local macro_rules | `(tactic| walk_at "c") => `(tactic| refine And.intro (by first | (show (0 : Int) < _; omega) | exact Or.inr ⟨by decide, by decide⟩ | exact Or.inl ⟨by decide, by decide⟩ | (exact ⟨by omega, by omega⟩)) ?_)
local macro_rules | `(tactic| walk_at "s1") => `(tactic| first | refine ⟨_, rfl, ?_⟩ | refine ⟨_, _, rfl, rfl, ?_⟩ | refine .inl ⟨_, rfl, ?_⟩ | walk_at "c")
local macro_rules | `(tactic| walk_at "ix") => `(tactic| refine ⟨_, _, _, _, rfl, rfl, SqL.of (by first | assumption | exact upd_same), rfl, ?_⟩)
local macro_rules | `(tactic| walk_at "s") => `(tactic| repeat (walk_at "s1"))
section
variable {P : Program} {w : World} {K : PySem.W.Frag} {mg : Str → Option Value} {base : Heap}
abbrev s_take : Stmt := top 42
abbrev n_take : List Str := ["box", "many", "digit"]
theorem sc_take : FnScope n_take ["box", "many"] (fnScope s_take) := fnScope_by (by decide +kernel)
def spTake : Sp := fun vs H Q _ => ∃ (b : Addr) (n : Int), vs = [.ref b, .int n] ∧ BoxAt b H ∧ 0 < n ∧ n < 1073741824 ∧
  ∀ (d : Int) (H' : Hp), 0 ≤ d → d < n → Bx b H H' → Q (.int d) H'
theorem ok_take (T : BT mg) {f : Addr} {fd : FuncData} (F : Def K mg "_law_take" s_take f fd) (b : Binds K fd ["box", "many"] []) : Cal P w K mg base 1 "_law_take" spTake [] := by
  refine cal0 F b .nil sc_take (fun vs H Q E h => ?_) (fun cdv A outer s H vs Q E hr h => ?_)
  · obtain ⟨b, n, rfl, _⟩ := h; rfl
  · obtain ⟨b, n, rfl, ⟨o, hb, x, y, z, rfl⟩, n0, n1, k⟩ := h
    refine ⟨_, (pss_cons (ps_if (pt_cmpR op_gt (pe_ix (ixl K) (pv 0) pe_int (fun _ _ => rfl)) pe_int (nomark _)) 
        (pss_cons (ps_set (i := 2) sc_take.nd rfl (.inl rfl) (pe_op op_mod (pe_callTy call_int1 (by rfl) T.m_int PyProof.Rows.boot_int (pa_cons (pe_ix (ixl K) (pv 0) pe_int (fun _ _ => rfl)) pa_nil)) (pv 1)))
        (pss_cons (ps_asg (pe_op op_fdiv (pe_ix (ixl K) (pv 0) pe_int (fun _ _ => rfl)) (pv 1)) (pg_sub (pv 0) pe_int set_list))
        (pss_one (ps_ret (pv 2))
        )))
       pss_nil)
      (pss_cons (ps_asg (pe_op op_add (pe_ix (ixl K) (pv 0) pe_int (fun _ _ => rfl)) pe_int) (pg_sub (pv 0) pe_int set_list))
      (pss_cons (ps_asg (pe_op op_mod (pe_callTy call_int1 (by rfl) T.m_int PyProof.Rows.boot_int (pa_cons (pe_op op_add (pe_op op_mul (pe_ix (ixl K) (pv 0) pe_int (fun _ _ => rfl)) pe_int) (pe_op op_mul pe_int (pe_ix (ixl K) (pv 0) pe_int (fun _ _ => rfl)))) pa_nil)) pe_int) (pg_sub (pv 0) pe_int set_list))
      (pss_one (ps_ret (pe_op op_mod (pe_callTy call_int1 (by rfl) T.m_int PyProof.Rows.boot_int (pa_cons (pe_op op_fdiv (pe_ix (ixl K) (pv 0) pe_int (fun _ _ => rfl)) pe_int) pa_nil)) (pv 1)))
      )))), ?_⟩
    walk_at "s"
    walk_at "ix"
    walk_at "s"
    refine ite2 (fun _ => ?_) (fun _ => ?_)
    · walk_at "s"
      walk_at "ix"
      walk_at "s"
      walk_at "ix"
      walk_at "s"
      refine ⟨_, _, _, _, rfl, rfl, hb, rfl, ?_⟩
      walk_at "s"
      exact k _ _ (Int.emod_nonneg _ (by omega)) (Int.emod_lt_of_pos _ n0) (Bx.mk _ _ _)
    · walk_at "s"
      walk_at "ix"
      walk_at "s"
      refine ⟨_, _, _, _, rfl, rfl, hb, rfl, ?_⟩
      walk_at "s"
      walk_at "ix"
      walk_at "s"
      walk_at "ix"
      walk_at "s"
      refine ⟨_, _, _, _, rfl, rfl, upd_same, rfl, ?_⟩
      walk_at "s"
      walk_at "ix"
      walk_at "s"
      exact k _ _ (Int.emod_nonneg _ (by omega)) (Int.emod_lt_of_pos _ n0) ((Bx.mk (x := x) (y := y) (z := z + 1)).trans (Bx.mk _ _ _))
abbrev s_pick : Stmt := top 43
abbrev n_pick : List Str := ["box", "some"]
theorem sc_pick : FnScope n_pick ["box", "some"] (fnScope s_pick) := fnScope_by (by decide +kernel)
def spPick : PySem.W.Frag → Sp := fun K vs H Q _ => ∃ (b l : Addr) (xs : List V), vs = [.ref b, .ref l] ∧ BoxAt b H ∧ l ≠ b ∧ SqL K H l xs ∧ 0 < xs.length ∧ xs.length < 1000 ∧
  ∀ (v : V) (H' : Hp), v ∈ xs → Bx b H H' → Q v H'
theorem ok_pick (T : BT mg) (c_take : Cal P w K mg base 1 "_law_take" spTake []) {f : Addr} {fd : FuncData} (F : Def K mg "_law_pick" s_pick f fd) (b : Binds K fd ["box", "some"] []) : Cal P w K mg base 2 "_law_pick" (spPick K) [] := by
  refine cal0 F b .nil sc_pick (fun vs H Q E h => ?_) (fun cdv A outer s H vs Q E hr h => ?_)
  · obtain ⟨b, l, xs, rfl, _⟩ := h; rfl
  · obtain ⟨b, l, xs, rfl, hb, hlb, hl, h0, h1, k⟩ := h
    refine ⟨_, (pss_one (ps_ret (pe_ix (ixl K) (pv 1) (pe_c c_take hr (by first | decide | omega) (by rfl) (pa_cons (pv 0) (pa_cons (pe_callB (lenK K) (by rfl) T.m_len PySem.boot_len (pa_cons (pv 1) pa_nil)) pa_nil))) (fun _ _ => rfl)))
      ), ?_⟩
    walk_at "s"
    refine ⟨_, _, rfl, .inl hl, ?_⟩
    refine ⟨b, (xs.length : Int), rfl, hb, by omega, by omega, fun d H' d0 d1 hB => ?_⟩
    have hd : d.toNat < xs.length := by omega
    refine ⟨_, _, _, xs[d.toNat], rfl, rfl, bk_seq hB hlb hl, ?_, ?_⟩
    · exact at_of (by omega) (List.getElem?_eq_getElem hd)
    · exact k _ _ (List.getElem_mem hd) hB
abbrev s_mixed : Stmt := top 44
abbrev n_mixed : List Str := ["box", "some", "rest", "found"]
theorem sc_mixed : FnScope n_mixed ["box", "some"] (fnScope s_mixed) := fnScope_by (by decide +kernel)
def spMixed : PySem.W.Frag → Sp := fun K vs H Q _ => ∃ (b l : Addr) (xs : List (List Nat)), vs = [.ref b, .ref l] ∧ BoxAt b H ∧ l ≠ b ∧ SqL K H l (txs xs) ∧ Small xs ∧ xs.length < 1000 ∧
  ∀ (ys : List (List Nat)) (p : Addr) (H' : Hp), ys.Perm xs → H p = none → Bx b H H' → H' p = some (.lst (txs ys)) → Q (.ref p) H'
theorem ok_mixed (T : BT mg) (c_take : Cal P w K mg base 1 "_law_take" spTake []) {f : Addr} {fd : FuncData} (F : Def K mg "_law_mixed" s_mixed f fd) (b : Binds K fd ["box", "some"] []) : Cal P w K mg base 2 "_law_mixed" (spMixed K) [] := by
  refine cal0 F b .nil sc_mixed (fun vs H Q E h => ?_) (fun cdv A outer s H vs Q E hr h => ?_)
  · obtain ⟨b, l, xs, rfl, _⟩ := h; rfl
  · obtain ⟨b, l, xs, rfl, hb, hlb, hl, hs, h1, k⟩ := h
    refine ⟨_, (pss_cons (ps_par (i := 2) (j := 3) rfl sc_mixed.nd rfl rfl (by decide) rfl rfl (pa_cons (pe_callTy (listK K) (by rfl) T.m_list PyProof.Rows.boot_list (pa_cons (pv 1) pa_nil)) (pa_cons (pe_lst pa_nil) pa_nil)) rfl)
      (pss_cons (ps_while PassesOwn.never (pt_cmpR (op_neSs hr) (pv 2) (pe_lst pa_nil) (nomark _)) 
        (pss_one (ps_expr (pe_bm PySem.F.plainAttrs_list PySem.F.slot_list_append PySem.F.type_list_append mt_append (pv 3) (pa_cons (pe_bm PySem.F.plainAttrs_list PySem.F.slot_list_pop PySem.F.type_list_pop mt_popAt (pv 2) (pa_cons (pe_c c_take hr (by first | decide | omega) (by rfl) (pa_cons (pv 0) (pa_cons (pe_callB (lenK K) (by rfl) T.m_len PySem.boot_len (pa_cons (pv 2) pa_nil)) pa_nil))) pa_nil)) pa_nil)))
        ))
      (pss_one (ps_ret (pv 3))
      ))), ?_⟩
    walk_at "s"
    refine nil1 ⟨_, _, rfl, .inl hl, fun p hp => ?_⟩
    have hpb := box_ne hb hp
    refine ⟨Nat.zero_le _, fun q hq => ?_⟩
    have hqp : q ≠ p := fun e => by rw [e, upd_same] at hq; cases hq
    have hq0 : H q = none := by rw [upd_ne hqp] at hq; exact hq
    have hqb := box_ne hb hq0
    refine nil1 ⟨_, _, rfl, ?_⟩
    refine ⟨fun m σ H' => ∃ rs fs : List (List Nat), m = rs.length ∧ σ = [some (.ref b), some (.ref l), some (.ref p), some (.ref q)] ∧ (rs ++ fs).Perm xs ∧ H' p = some (.lst (txs rs)) ∧ H' q = some (.lst (txs fs)) ∧ Bx b H H',
      ⟨xs.length, xs, [], rfl, rfl, by rw [List.append_nil], by rw [upd_ne hqp.symm, upd_same], by rw [upd_same]; rfl, Bx.put (Bx.put (bk_same (Same.refl H) hb) hb hp) hb hq0⟩, ?_⟩
    rintro m σ H' ⟨rs, fs, rfl, rfl, hperm, hrp, hrq, hB⟩
    have hsm : Small rs := fun r hr => hs r (hperm.subset (List.mem_append_left _ hr))
    have hlen : rs.length + fs.length = xs.length := by rw [← List.length_append]; exact hperm.length_eq
    refine ⟨_, rfl, Nat.zero_le _, fun t ht => ?_⟩
    have hB' : Bx b H (upd H' t (.lst [])) := Bx.put hB hb (hB.free ht)
    have hpt : p ≠ t := ne_of_none hrp ht
    have hqt : q ≠ t := ne_of_none hrq ht
    refine ⟨p, t, rs, [], rfl, rfl, .inl ⟨SqL.of (by rw [upd_ne hpt]; exact hrp), SqL.of upd_same⟩, hsm, (fun _ h => nomatch h), ?_⟩
    by_cases e : rs = []
    · refine ⟨_, rfl, iteN (by simp [e]) ?_⟩
      subst e
      refine ⟨_, rfl, ?_⟩
      exact k fs q _ hperm hq0 hB' (by rw [upd_ne hqt]; exact hrq)
    · refine ⟨_, rfl, iteB (by simp [e]) ?_⟩
      have hpos : 0 < rs.length := List.length_pos_iff.mpr e
      have hp' : upd H' t (.lst []) p = some (.lst (txs rs)) := by rw [upd_ne hpt]; exact hrp
      have hq' : upd H' t (.lst []) q = some (.lst (txs fs)) := by rw [upd_ne hqt]; exact hrq
      refine ⟨fun σ' H' => ∃ rs' fs' : List (List Nat), rs.length - 1 = rs'.length ∧ σ' = [some (.ref b), some (.ref l), some (.ref p), some (.ref q)] ∧ (rs' ++ fs').Perm xs ∧ H' p = some (.lst (txs rs')) ∧ H' q = some (.lst (txs fs')) ∧ Bx b H H',
        fun σ' H' h => ⟨rs.length - 1, by omega, h⟩, ?_⟩
      refine ⟨_, rfl, .inl ⟨rfl, _, SqL.of hq'⟩, ?_⟩
      refine ⟨_, rfl, .inl ⟨rfl, _, SqL.of hp'⟩, ?_⟩
      refine ⟨_, rfl, _, rfl, p, _, rfl, .inl (SqL.of hp'), ?_⟩
      rw [txs_len]
      refine ⟨b, (rs.length : Int), rfl, hB'.2, by omega, by omega, fun d H2 d0 d1 hB2 => ?_⟩
      have hpb2 : p ≠ b := hpb
      have hp2 : H2 p = some (.lst (txs rs)) := hB2.1 _ _ hpb hp'
      have hq2 : H2 q = some (.lst (txs fs)) := hB2.1 _ _ hqb hq'
      have hd : d.toNat < rs.length := by omega
      refine ⟨p, txs rs, d, d.toNat, .str (S rs[d.toNat]), rfl, rfl, hp2, by omega, by omega, by rw [txs_len]; exact PySem.seqIndex_of d0 (by omega), ?_, ?_⟩
      · unfold txs; rw [List.getElem?_map, List.getElem?_eq_getElem hd]; rfl
      refine ⟨q, txs fs, _, rfl, rfl, by rw [upd_ne hqp]; exact hq2, by rw [txs_len]; exact small1000 (by omega), ?_⟩
      refine ⟨rs.eraseIdx d.toNat, fs ++ [rs[d.toNat]], ?_, rfl, ?_, ?_, ?_, ?_⟩
      · rw [List.length_eraseIdx]; simp [hd]
      · refine List.Perm.trans ?_ hperm
        refine List.Perm.trans ?_ (List.Perm.append_right fs (perm_at hd))
        rw [← List.append_assoc]
        exact List.perm_append_comm
      · rw [upd_ne hqp.symm, upd_same]; unfold txs; rw [eraseIdx_map']
      · rw [upd_same]; unfold txs; rw [List.map_append]; rfl
      · exact Bx.put (Bx.put (hB'.trans hB2) hb hp) hb hq0
theorem s_a : (Str.ofString "a") = S [97] := by decide +kernel
theorem s_b : (Str.ofString "b") = S [98] := by decide +kernel
theorem s_c : (Str.ofString "c") = S [99] := by decide +kernel
theorem s_x : (Str.ofString "x") = S [120] := by decide +kernel
theorem s_z : (Str.ofString "z") = S [122] := by decide +kernel
theorem s_nil : (Str.ofString "") = S [] := by decide +kernel
def Sg (sg : List Nat) : Prop := sg.Pairwise (· < ·) ∧ 1 ≤ sg.length ∧ sg.length ≤ 3 ∧ ∀ c ∈ sg, 97 ≤ c ∧ c ≤ 122
theorem txs_get {ims : List (List Nat)} {i : Nat} {x : V} (h : (txs ims)[i]? = some x) : ∃ l, ims[i]? = some l ∧ x = .str (S l) := by
  unfold txs at h
  rw [List.getElem?_map] at h
  cases q : ims[i]? with
  | none => rw [q] at h; cases h
  | some l => rw [q] at h; exact ⟨l, rfl, (Option.some.inj h).symm⟩
theorem txs_of {ims : List (List Nat)} {f : List Nat → List Nat} {ys : List V} (hl : ys.length = (txs ims).length) (h : ∀ (j : Nat) y, ys[j]? = some y → ∀ l, ims[j]? = some l → y = .str (S (f l))) : ys = txs (ims.map f) := by
  have e : txs (ims.map f) = ims.map fun l => V.str (S (f l)) := by unfold txs; rw [List.map_map]; rfl
  rw [e]
  exact list_map (by rw [hl, txs_len]) fun j y l e1 e2 => h j y e1 l e2
def ab5 : List (List Nat) := [[97], [98], [99], [120], [122]]
abbrev s_signs : Stmt := top 45
abbrev n_signs : List Str := ["box", "many", "sign"]
theorem sc_signs : FnScope n_signs ["box"] (fnScope s_signs) := fnScope_by (by decide +kernel)
def spSigns : Sp := fun vs H Q _ => ∃ (b : Addr), vs = [.ref b] ∧ BoxAt b H ∧ ∀ (sg : List Nat) (H' : Hp), Sg sg → Bx b H H' → Q (.str (S sg)) H'
theorem ok_signs (T : BT mg) (c_pick : Cal P w K mg base 2 "_law_pick" (spPick K) []) (c_mixed : Cal P w K mg base 2 "_law_mixed" (spMixed K) []) {f : Addr} {fd : FuncData} (F : Def K mg "_law_signs" s_signs f fd) (b : Binds K fd ["box"] []) : Cal P w K mg base 3 "_law_signs" spSigns [] := by
  refine cal0 F b .nil sc_signs (fun vs H Q E h => ?_) (fun cdv A outer s H vs Q E hr h => ?_)
  · obtain ⟨b, rfl, _⟩ := h; rfl
  · obtain ⟨b, rfl, hb, k⟩ := h
    refine ⟨_, (pss_cons (ps_set (i := 1) sc_signs.nd rfl (.inl rfl) (pe_c c_pick hr (by first | decide | omega) (by rfl) (pa_cons (pv 0) (pa_cons (pe_lst (pa_cons pe_int (pa_cons pe_int (pa_cons pe_int (pa_cons pe_int (pa_cons pe_int pa_nil)))))) pa_nil))))
      (pss_one (ps_ret (pe_join pe_str (pe_callB cr_sortedS (by rfl) T.m_sorted PyProof.Rows.boot_sorted (pa_cons (pe_lc (own := [("sign", 2)]) rfl sc_signs.nd (pi_list (pe_slice sl_list (pe_c c_mixed hr (by first | decide | omega) (by rfl) (pa_cons (pv 0) (pa_cons (pe_lst (pa_cons pe_str (pa_cons pe_str (pa_cons pe_str (pa_cons pe_str (pa_cons pe_str pa_nil)))))) pa_nil))) po_none (po_some (pv 1)))) (blkOk_by (N := n_signs) (sc := fnScope s_signs) (by decide +kernel)) (fun _ _ _ _ _ => (pg_name (i := 2) sc_signs.nd rfl (.inl rfl))) (fun _ _ _ _ _ => pts_nil) (fun _ _ _ _ _ => (pe_callTy SkE.call_str_str (by rfl) T.m_str PyProof.Rows.boot_str (pa_cons (pv 2) pa_nil)))) pa_nil))))
      )), ?_⟩
    walk_at "s"
    refine ⟨by decide, fun p hp => ?_⟩
    have hpb := box_ne hb hp
    have hB0 : Bx b H (upd H p (.lst [.int 2, .int 2, .int 2, .int 3, .int 1])) := Bx.put (bk_same (Same.refl H) hb) hb hp
    refine ⟨b, p, _, rfl, hB0.2, hpb, SqL.of upd_same, by decide, by decide, fun v H1 hv hB1 => ?_⟩
    obtain ⟨m, rfl, m1, m3⟩ : ∃ m : Nat, v = .int m ∧ 1 ≤ m ∧ m ≤ 3 := by
      have e : v = .int 2 ∨ v = .int 2 ∨ v = .int 2 ∨ v = .int 3 ∨ v = .int 1 := by simpa using hv
      rcases e with rfl | rfl | rfl | rfl | rfl
      · exact ⟨2, rfl, by decide, by decide⟩
      · exact ⟨2, rfl, by decide, by decide⟩
      · exact ⟨2, rfl, by decide, by decide⟩
      · exact ⟨3, rfl, by decide, by decide⟩
      · exact ⟨1, rfl, by decide, by decide⟩
    have hB2 := hB0.trans hB1
    walk_at "s"
    refine ⟨⟨_, rfl⟩, ?_⟩
    walk_at "s"
    refine ⟨by decide, fun q hq => ?_⟩
    have hqb := box_ne hB2.2 hq
    have hB3 : Bx b H (upd H1 q (.lst [.str (Str.ofString "a"), .str (Str.ofString "b"), .str (Str.ofString "c"), .str (Str.ofString "x"), .str (Str.ofString "z")])) := Bx.put hB2 hb (hB2.free hq)
    refine ⟨b, q, ab5, rfl, hB3.2, hqb, SqL.of (by rw [upd_same, s_a, s_b, s_c, s_x, s_z]; rfl), (by intro l hl c hc; simp [ab5] at hl; rcases hl with rfl | rfl | rfl | rfl | rfl <;> simp at hc <;> omega), by decide, fun ys r H2 hys hr hB4 hr2 => ?_⟩
    have hB5 := hB3.trans hB4
    obtain ⟨cs, rfl, hcs⟩ := perm_map_inv (f := fun c => [c]) (g := fun l => l.headD 0) (fun _ => rfl) (show ys.Perm ([97, 98, 99, 120, 122].map fun c => [c]) from hys)
    have hl5 : cs.length = 5 := hcs.length_eq
    have ecut : cutV (txs (cs.map fun c => [c])) none (some (m : Int)) = txs ((cs.take m).map fun c => [c]) := by
      unfold cutV
      rw [HT.sIx_none, HT.sIx_nat, txs_len, List.length_map, hl5, Nat.min_eq_left (by omega)]
      unfold txs
      rw [List.drop_zero, Nat.sub_zero, ← List.map_take, ← List.map_take]
    refine ⟨_, rfl, _, rfl, r, _, rfl, SqL.of hr2, fun q2 hq2 => ?_⟩
    rw [ecut]
    have hB6 : Bx b H (upd H2 q2 (.lst (txs ((cs.take m).map fun c => [c])))) := Bx.put hB5 hb (hB5.free hq2)
    have hlm : (cs.take m).length = m := by rw [List.length_take]; omega
    refine ⟨_, rfl, ⟨_, SqL.of upd_same⟩, fun D hD => lc_keep keep_same (walk_list (K := K) (a := q2) (xs := txs ((cs.take m).map fun c => [c]))) hD (by rw [txs_len, List.length_map, hlm]; exact small1000 (by omega)) (fun j y => ∀ l, ((cs.take m).map fun c => [c])[j]? = some l → y = .str (S l)) (fun H2 r1 => SqL.of (r1 _ _ upd_same)) (fun i x H3 H4 R hii r1 hy hR => ?_) (fun ys H3 hly hg r1 hDs => ?_)⟩
    · obtain ⟨rfl, e⟩ := hy
      obtain ⟨l, el, rfl⟩ := txs_get e
      refine ⟨rfl, ?_⟩
      refine ⟨_, rfl, _, rfl, ?_⟩
      exact hR _ _ (Same.refl _) fun l' h => by rw [el] at h; rw [Option.some.inj h]
    have eys := txs_of (f := id) hly hg
    rw [List.map_id] at eys
    subst eys
    refine ⟨D, (cs.take m).map fun c => S [c], rfl, SqL.of (by rw [hDs]; unfold txs; rw [List.map_map, List.map_map]; rfl), by rw [List.length_map, hlm]; omega, fun ss z hss hsrt hz => ?_⟩
    obtain ⟨ds, rfl, hds⟩ := perm_map_inv (f := fun c => S [c]) (g := fun x => x.cps.toList.headD 0) (fun _ => rfl) hss
    have hnd : ds.Nodup := hds.nodup_iff.mpr ((hcs.nodup_iff.mpr (by decide)).sublist (List.take_sublist _ _))
    have hdl : ds.length = m := by rw [hds.length_eq, hlm]
    refine ⟨_, z, ds.map fun c => S [c], rfl, rfl, .inl (SqL.of upd_same), ?_, ?_⟩
    · rw [sums_singles, s_nil, S_len]; simp only [List.length_nil, Nat.mul_zero, Nat.add_zero]; omega
    · show Q (.str (Txt.join (Str.ofString "") (ds.map fun c => S [c]))) _
      rw [s_nil, join_singles]
      refine k ds _ ⟨strict_of (sorted_singles hsrt) hnd, by omega, by omega, fun c hc => ?_⟩ (Bx.put (hB6.trans (bk_same r1 hB6.2)) hb ?_)
      · have h5 := hcs.subset (List.mem_of_mem_take (hds.subset hc))
        simp at h5; omega
      · exact (hB6.trans (bk_same r1 hB6.2)).free hz
end
end Toy
set_option maxHeartbeats 1000000
namespace Toy
open PySem L2 C8 SX LX
local macro_rules | `(tactic| walk_at "c") => `(tactic| refine And.intro (by first | (show (0 : Int) < _; omega) | exact Or.inr ⟨by decide, by decide⟩ | exact Or.inl ⟨by decide, by decide⟩ | (exact ⟨by omega, by omega⟩)) ?_)
local macro_rules | `(tactic| walk_at "s1") => `(tactic| first | refine ⟨_, rfl, ?_⟩ | refine ⟨_, _, rfl, rfl, ?_⟩ | refine .inl ⟨_, rfl, ?_⟩ | walk_at "c")
local macro_rules | `(tactic| walk_at "s") => `(tactic| repeat (walk_at "s1"))
section
variable {P : Program} {w : World} {K : PySem.W.Frag} {mg : Str → Option Value} {base : Heap}
theorem s_no : (Str.ofString "no") = S [110, 111] := by decide +kernel
theorem s_yes : (Str.ofString "yes") = S [121, 101, 115] := by decide +kernel
theorem s_ma : (Str.ofString "ma") = S [109, 97] := by decide +kernel
theorem s_mb : (Str.ofString "mb") = S [109, 98] := by decide +kernel
theorem s_even : (Str.ofString "even") = S [101, 118, 101, 110] := by decide +kernel
theorem s_seen : (Str.ofString "seen") = S [115, 101, 101, 110] := by decide +kernel
theorem s_zz : (Str.ofString "zz") = S [122, 122] := by decide +kernel
theorem s_ready : (Str.ofString "ready") = S [114, 101, 97, 100, 121] := by decide +kernel
def nm8 : List (List Nat) := [[110, 111], [121, 101, 115], [109, 97], [109, 98], [101, 118, 101, 110], [115, 101, 101, 110], [122, 122], [114, 101, 97, 100, 121]]
theorem nm8_small : Small nm8 := by
  intro l hl c hc
  simp [nm8] at hl
  rcases hl with rfl | rfl | rfl | rfl | rfl | rfl | rfl | rfl <;> simp at hc <;> omega
def Nm (m : List Nat) : Prop := 2 ≤ m.length ∧ m.length ≤ 6 ∧ (∀ c ∈ m, 97 ≤ c ∧ c ≤ 122)
def Mks (ms : List (List Nat)) (most : Nat) : Prop := ms.Nodup ∧ 1 ≤ ms.length ∧ ms.length ≤ most ∧ ∀ m ∈ ms, m ∈ nm8
structure Mch (sg : List Nat) (ms : List (List Nat)) (f : List Nat) (tg : List Nat → Nat → List Nat) (most : Nat) : Prop where
  hsg : Sg sg
  hms : Mks ms most
  hf : f ∈ ms
  htg : ∀ m ∈ ms, ∀ c ∈ sg, tg m c ∈ ms
theorem k_signs : (Sum.inr (Str.ofString "signs") : Key) = tk [115, 105, 103, 110, 115] := by rw [show (Str.ofString "signs") = S [115, 105, 103, 110, 115] from by decide +kernel]
theorem k_marks : (Sum.inr (Str.ofString "marks") : Key) = tk [109, 97, 114, 107, 115] := by rw [show (Str.ofString "marks") = S [109, 97, 114, 107, 115] from by decide +kernel]
theorem k_first : (Sum.inr (Str.ofString "first") : Key) = tk [102, 105, 114, 115, 116] := by rw [show (Str.ofString "first") = S [102, 105, 114, 115, 116] from by decide +kernel]
theorem k_leads : (Sum.inr (Str.ofString "leads") : Key) = tk [108, 101, 97, 100, 115] := by rw [show (Str.ofString "leads") = S [108, 101, 97, 100, 115] from by decide +kernel]
def tdK (sg : List Nat) (pm : Addr) (f : List Nat) (pl : Addr) : List (Key × V) := [(.inr "signs", .str (S sg)), (.inr "marks", .ref pm), (.inr "first", .str (S f)), (.inr "leads", .ref pl)]
def leK (ms : List (List Nat)) (ad : List Nat → Addr) : List (Key × V) := ms.map fun m => (tk m, .ref (ad m))
def laK (sg : List Nat) (t : Nat → List Nat) : List (Key × V) := sg.map fun c => (tk [c], .str (S (t c)))
structure Told (H : Hp) (a : Addr) (sg : List Nat) (ms : List (List Nat)) (f : List Nat) (tg : List Nat → Nat → List Nat) (pm pl : Addr) (ad : List Nat → Addr) : Prop where
  ha : H a = some (.dK (tdK sg pm f pl))
  hpm : H pm = some (.lst (txs ms))
  hpl : H pl = some (.dK (leK ms ad))
  had : ∀ m ∈ ms, H (ad m) = some (.dK (laK sg (tg m)))
abbrev s_drawn : Stmt := top 46
abbrev n_drawn : List Str := ["box", "signs", "most", "marks", "leads", "mark", "sign"]
theorem sc_drawn : FnScope n_drawn ["box", "signs", "most"] (fnScope s_drawn) := fnScope_by (by decide +kernel)
def spDrawn : Sp := fun vs H Q _ => ∃ (b : Addr) (sg : List Nat) (most : Nat), vs = [.ref b, .str (S sg), .int most] ∧ Sg sg ∧ 1 ≤ most ∧ most ≤ 7 ∧ BoxAt b H ∧
  ∀ (a : Addr) (ms : List (List Nat)) (f : List Nat) (tg : List Nat → Nat → List Nat) (pm pl : Addr) (ad : List Nat → Addr) (H' : Hp), Mch sg ms f tg most → Bx b H H' → H a = none → H pm = none → H pl = none → (∀ m ∈ ms, H (ad m) = none) → Told H' a sg ms f tg pm pl ad → Q (.ref a) H'
theorem ok_drawn (T : BT mg) (c_take : Cal P w K mg base 1 "_law_take" spTake []) (c_pick : Cal P w K mg base 2 "_law_pick" (spPick K) []) (c_mixed : Cal P w K mg base 2 "_law_mixed" (spMixed K) []) {f : Addr} {fd : FuncData} (F : Def K mg "_law_drawn" s_drawn f fd) (b : Binds K fd ["box", "signs", "most"] []) : Cal P w K mg base 3 "_law_drawn" spDrawn [] := by
  refine cal0 F b .nil sc_drawn (fun vs H Q E h => ?_) (fun cdv A outer s H vs Q E hr h => ?_)
  · obtain ⟨b, sg, most, rfl, _⟩ := h; rfl
  · obtain ⟨b, sg, most, rfl, hsg, hm1, hm7, hb, k⟩ := h
    refine ⟨_, (pss_cons (ps_set (i := 3) sc_drawn.nd rfl (.inr rfl) (pe_slice sl_list (pe_c c_mixed hr (by first | decide | omega) (by rfl) (pa_cons (pv 0) (pa_cons (pe_lst (pa_cons pe_str (pa_cons pe_str (pa_cons pe_str (pa_cons pe_str (pa_cons pe_str (pa_cons pe_str (pa_cons pe_str (pa_cons pe_str pa_nil))))))))) pa_nil))) po_none (po_some (pe_op op_add pe_int (pe_c c_take hr (by first | decide | omega) (by rfl) (pa_cons (pv 0) (pa_cons (pv 2) pa_nil)))))))
      (pss_cons (ps_set (i := 4) sc_drawn.nd rfl (.inl rfl) pe_dnewK)
      (pss_cons (ps_for PassesOwn.never rfl (pi_list (pv 3)) (pg_name (i := 5) sc_drawn.nd rfl (.inl rfl)) 
        (pss_one (ps_dput (hu_of hr) (pv 4) (pv 5) (pe_callTy (call_dictP rfl) (by rfl) T.m_dict PyProof.Rows.boot_dict (pa_cons (pe_lc (own := [("sign", 6)]) rfl sc_drawn.nd (pi_str (pv 1)) (blkOk_by (N := n_drawn) (sc := fnScope s_drawn) (by decide +kernel)) (fun _ _ _ _ _ => (pg_name (i := 6) sc_drawn.nd rfl (.inl rfl))) (fun _ _ _ _ _ => pts_nil) (fun _ _ _ _ _ => (pe_tup (pa_cons (pv 6) (pa_cons (pe_c c_pick hr (by first | decide | omega) (by rfl) (pa_cons (pv 0) (pa_cons (pv 3) pa_nil))) pa_nil))))) pa_nil)) rfl)
        ))
      (pss_one (ps_ret (pe_disp (pps_cons pe_str (pv 1) (pps_cons pe_str (pv 3) (pps_cons pe_str (pe_c c_pick hr (by first | decide | omega) (by rfl) (pa_cons (pv 0) (pa_cons (pv 3) pa_nil))) (pps_cons pe_str (pv 4) pps_nil)))) rfl rfl (by decide) (by decide)))
      )))), ?_⟩
    walk_at "s"
    refine ⟨by decide, fun q hq => ?_⟩
    have hqb := box_ne hb hq
    have hB0 : Bx b H (upd H q (.lst [.str "no", .str "yes", .str "ma", .str "mb", .str "even", .str "seen", .str "zz", .str "ready"])) := Bx.put (bk_same (Same.refl H) hb) hb hq
    refine ⟨b, q, nm8, rfl, hB0.2, hqb, SqL.of (by rw [upd_same, s_no, s_yes, s_ma, s_mb, s_even, s_seen, s_zz, s_ready]; rfl), nm8_small, by decide, fun ys r H2 hys hr hB1 hr2 => ?_⟩
    have hB2 := hB0.trans hB1
    have hrb : r ≠ b := box_ne hB0.2 hr
    refine ⟨_, rfl, _, rfl, b, (most : Int), rfl, hB2.2, by omega, by omega, fun d H3 d0 d1 hB3 => ?_⟩
    obtain ⟨n, rfl⟩ := Int.eq_ofNat_of_zero_le d0
    have hr3 := hB3.1 _ _ hrb hr2
    refine ⟨_, _, rfl, rfl, _, rfl, r, _, rfl, SqL.of hr3, fun pm hpm => ?_⟩
    rw [show (1 : Int) + (n : Int) = ((1 + n : Nat) : Int) by omega, cut_to]
    have hB4 := hB2.trans hB3
    have hB5 : Bx b H (upd H3 pm (.lst (txs (ys.take (1 + n))))) := Bx.put hB4 hb (hB4.free hpm)
    have hpmb : pm ≠ b := box_ne hB4.2 hpm
    have hpm0 : H pm = none := hB4.free hpm
    have hms : Mks (ys.take (1 + n)) most := by
      have hl8 : ys.length = 8 := hys.length_eq
      refine ⟨(hys.nodup_iff.mpr (by decide)).sublist (List.take_sublist _ _), ?_, ?_, fun m hm => hys.subset (List.mem_of_mem_take hm)⟩
      · rw [List.length_take]; omega
      · rw [List.length_take]; omega
    generalize ys.take (1 + n) = ms at hms hB5 ⊢
    refine fun pl hpl => ?_
    have hB6 : Bx b H (upd (upd H3 pm (.lst (txs ms))) pl (.dK [])) := Bx.put hB5 hb (hB5.free hpl)
    have hplb : pl ≠ b := box_ne hB5.2 hpl
    have hpl0 : H pl = none := hB5.free hpl
    have hpmpl : pm ≠ pl := fun e => by rw [← e, upd_same] at hpl; cases hpl
    refine ⟨_, rfl, _, rfl, ⟨_, SqL.of (by rw [upd_ne hpmpl, upd_same])⟩, for_it (walk_list (K := K) (a := pm) (xs := txs ms)) (fun i σ H' => ∃ (ad : List Nat → Addr) (tg : List Nat → Nat → List Nat) (s5 s6 : Option V), σ = [some (.ref b), some (.str (S sg)), some (.int most), some (.ref pm), some (.ref pl), s5, s6] ∧ Bx b H H' ∧ H' pm = some (.lst (txs ms)) ∧
        H' pl = some (.dK (leK (ms.take i) ad)) ∧ (∀ m ∈ ms.take i, H (ad m) = none ∧ ad m ≠ pl ∧ H' (ad m) = some (.dK (laK sg (tg m)))) ∧ ∀ m ∈ ms.take i, ∀ c ∈ sg, tg m c ∈ ms)
      ⟨fun _ => 0, fun _ _ => [], _, _, rfl, hB6, by rw [upd_ne hpmpl, upd_same], upd_same, (fun _ h => nomatch h), (fun _ h => nomatch h)⟩ (fun i σ H' _ ⟨_, _, _, _, _, _, h, _⟩ => SqL.of h) ?_ ?_⟩
    · rintro i x σ H4 H4' hi ⟨ad, tg, s5, s6, rfl, hB7, hpm7, hpl7, had, htg⟩ ⟨rfl, hx⟩
      obtain ⟨m, hm, rfl⟩ := txs_get hx
      have hmm : m ∈ ms := List.mem_of_getElem? hm
      refine ⟨_, rfl, _, rfl, fun D hD => ?_⟩
      refine lc_keepH (keep_bk hB7.2) walk_str hD (by show sg.length < sizeLine; exact small1000 (by have := hsg.2.2.1; omega)) (fun j y H => ∃ (t : Addr) (c : Nat) (v : List Nat), y = .ref t ∧ sg[j]? = some c ∧ v ∈ ms ∧ H t = some (.tup [.str (S [c]), .str (S v)])) (fun _ _ => trivial)
        (fun _ _ H5 H6 r r2 ⟨t, c, v, e, hc, hv, ht⟩ => ⟨t, c, v, e, hc, hv, r2.1 _ _ (tup_ne_box r.2 ht) ht⟩) (fun _ _ H5 acc o _ hDa ⟨t, c, v, e, hc, hv, ht⟩ => ⟨t, c, v, e, hc, hv, by rw [upd_ne (ne_of ht hDa (by intro h; cases h))]; exact ht⟩) (fun j x H5 H6 acc R hj r hDa hy hR => ?_) (fun ys H5 hly hg r hDs => ?_)
      · obtain ⟨rfl, c, hc, rfl⟩ := hy
        have hc' : sg[j]? = some c := by simpa [S] using hc
        refine ⟨rfl, ?_⟩
        have hpm6 := r.1 _ _ hpmb hpm7
        refine ⟨_, rfl, _, rfl, _, rfl, b, pm, txs ms, rfl, r.2, hpmb, SqL.of hpm6, by rw [txs_len]; exact hms.2.1, by rw [txs_len]; have := hms.2.2.1; omega, fun v H7 hv hB8 => ?_⟩
        unfold txs at hv
        obtain ⟨l, hl, rfl⟩ := List.mem_map.mp hv
        refine ⟨(by show 2 ≤ sizeLine; decide), fun t ht => ?_⟩
        exact hR _ _ (Bx.put hB8 r.2 (hB8.free ht)) ⟨t, c, l, rfl, hc', hl, upd_same⟩
      have hly2 : ys.length = sg.length := hly.trans (by simp [S])
      have h2 : ∀ (j : Nat) (c : Nat), sg[j]? = some c → ∃ v : Addr × List Nat, ys[j]? = some (.ref v.1) ∧ v.2 ∈ ms ∧ H5 v.1 = some (.tup [.str (S [c]), .str (S v.2)]) := fun j c hc => by
        have hj : j < ys.length := by rw [hly2]; exact (List.getElem?_eq_some_iff.mp hc).1
        obtain ⟨t, c', v, e, hc', hv, ht⟩ := hg j _ (List.getElem?_eq_getElem hj)
        rw [hc] at hc'
        cases hc'
        exact ⟨(t, v), by rw [List.getElem?_eq_getElem hj, e], hv, ht⟩
      have hsn : sg.Nodup := hsg.1.imp fun h => by omega
      obtain ⟨g, hg2⟩ := fun_of hsn h2
      have eys : ys = (sg.map fun c => (g c).1).map V.ref := by
        rw [List.map_map]
        exact list_map hly2 fun j y c e1 e2 => by have := (hg2 j c e2).1; rw [e1] at this; exact Option.some.inj this
      refine ⟨D, sg.map fun c => (g c).1, laK sg fun c => (g c).2, rfl, SqL.of (by rw [← eys]; exact hDs), paired_map fun c hc => ?_, fun dd hdd => ?_⟩
      · obtain ⟨j, hj⟩ := List.getElem?_of_mem hc
        exact .inl (.inl (hg2 j c hj).2.2)
      have emg : mergeK [] (laK sg fun c => (g c).2) = laK sg fun c => (g c).2 := merge_nil (nodup_keys (key := fun c => tk [c]) (fun a b h => (List.cons.inj (tk_inj h)).1) hsn)
      rw [emg]
      have hpl8 : upd H5 dd (.dK (laK sg fun c => (g c).2)) pl = some (.dK (leK (ms.take i) ad)) := by
        have := r.1 _ _ hplb hpl7
        rw [upd_ne (ne_of_none this hdd)]; exact this
      have hB8 : Bx b H H5 := hB7.trans r
      have hB9 : Bx b H (upd H5 dd (.dK (laK sg fun c => (g c).2))) := Bx.put hB8 hb (hB8.free hdd)
      refine ⟨_, rfl, _, rfl, pl, _, rfl, DPut.k (k := tk m) hpl8 ?_, ?_⟩
      · unfold leK; rw [List.length_map, List.length_take]; exact small1000 (by have := hms.2.2.1; omega)
      have hnew : putK (leK (ms.take i) ad) (tk m) (.ref dd) = leK (ms.take i) ad ++ [(tk m, .ref dd)] := putK_new _ (valV_none fun p hp => by
        unfold leK at hp
        obtain ⟨m', hm', rfl⟩ := List.mem_map.mp hp
        exact fun e => not_in_take hms.1 hm (tk_inj e ▸ hm'))
      rw [hnew]
      have hddpl : dd ≠ pl := fun e => by rw [e] at hdd; have := r.1 _ _ hplb hpl7; rw [hdd] at this; cases this
      have hne : ∀ m' ∈ ms.take i, m' ≠ m := fun m' h e => not_in_take hms.1 hm (e ▸ h)
      refine ⟨fun x => if x = m then dd else ad x, fun x => if x = m then (fun c => (g c).2) else tg x, _, _, rfl, ?_, ?_, ?_, ?_, ?_⟩
      · exact Bx.put hB9 hb hpl0
      · have := r.1 _ _ hpmb hpm7
        rw [upd_ne hpmpl, upd_ne (ne_of_none this hdd)]; exact this
      · rw [upd_same, take_more hm]
        have : leK (ms.take i ++ [m]) (fun x => if x = m then dd else ad x) = leK (ms.take i) ad ++ [(tk m, .ref dd)] := by
          unfold leK
          rw [List.map_append]
          congr 1
          · exact List.map_congr_left fun m' h => by dsimp only; rw [if_neg (hne m' h)]
          · show [(tk m, V.ref (if m = m then dd else ad m))] = _
            rw [if_pos rfl]
        rw [this]
      · intro m' hm'
        rw [take_more hm] at hm'
        rcases List.mem_append.mp hm' with h | h
        · obtain ⟨a1, a2, a3⟩ := had m' h
          have a4 := r.1 _ _ (dict_ne_box hB7.2 a3) a3
          dsimp only
          rw [if_neg (hne m' h), if_neg (hne m' h)]
          exact ⟨a1, a2, by rw [upd_ne a2, upd_ne (ne_of_none a4 hdd)]; exact a4⟩
        · rw [List.mem_singleton] at h
          subst h
          dsimp only
          rw [if_pos rfl, if_pos rfl]
          exact ⟨hB8.free hdd, hddpl, by rw [upd_ne hddpl, upd_same]⟩
      · intro m' hm' c hc
        rw [take_more hm] at hm'
        rcases List.mem_append.mp hm' with h | h
        · dsimp only
          rw [if_neg (hne m' h)]
          exact htg m' h c hc
        · rw [List.mem_singleton] at h
          subst h
          dsimp only
          rw [if_pos rfl]
          obtain ⟨j, hj⟩ := List.getElem?_of_mem hc
          exact (hg2 j c hj).2.1
    · rintro σ H4 ⟨ad, tg, s5, s6, rfl, hB7, hpm7, hpl7, had, htg⟩
      rw [txs_len, List.take_length] at hpl7 had htg
      refine fun a ha => ?_
      have hB8 : Bx b H (upd H4 a (.dK [])) := Bx.put hB7 hb (hB7.free ha)
      have hapm : pm ≠ a := ne_of_none hpm7 ha
      have hapl : pl ≠ a := ne_of_none hpl7 ha
      have hab : a ≠ b := box_ne hB7.2 ha
      refine ⟨_, rfl, _, rfl, _, rfl, _, rfl, b, pm, txs ms, rfl, hB8.2, hpmb, SqL.of (by rw [upd_ne hapm]; exact hpm7), by rw [txs_len]; exact hms.2.1, by rw [txs_len]; have := hms.2.2.1; omega, fun v H5 hv hB9 => ?_⟩
      unfold txs at hv
      obtain ⟨l, hl, rfl⟩ := List.mem_map.mp hv
      refine ⟨_, rfl, hB9.1 _ _ hab upd_same, tdK sg pm l pl, rfl, (by show 4 ≤ 15; decide), ?_⟩
      rw [merge_nil (by show ([.inr "signs", .inr "marks", .inr "first", .inr "leads"] : List Key).Nodup; decide +kernel)]
      refine k a ms l tg pm pl ad _ ⟨hsg, hms, hl, htg⟩ (Bx.put (hB8.trans hB9) hb (hB7.free ha)) (hB7.free ha) hpm0 hpl0 (fun m hm => (had m hm).1) ⟨upd_same, ?_, ?_, fun m hm => ?_⟩
      · rw [upd_ne hapm]; exact hB9.1 _ _ hpmb (by rw [upd_ne hapm]; exact hpm7)
      · rw [upd_ne hapl]; exact hB9.1 _ _ hplb (by rw [upd_ne hapl]; exact hpl7)
      · obtain ⟨a1, a2, a3⟩ := had m hm
        have hn : ad m ≠ a := ne_of_none a3 ha
        rw [upd_ne hn]
        exact hB9.1 _ _ (dict_ne_box hB7.2 a3) (by rw [upd_ne hn]; exact a3)
end
end Toy
set_option maxHeartbeats 1000000
namespace Toy
open PySem L2 C8 SX LX
local macro_rules | `(tactic| walk_at "c") => `(tactic| refine And.intro (by first | (show (0 : Int) < _; omega) | exact Or.inr ⟨by decide, by decide⟩ | exact Or.inl ⟨by decide, by decide⟩ | (exact ⟨by omega, by omega⟩)) ?_)
local macro_rules | `(tactic| walk_at "s1") => `(tactic| first | refine ⟨_, rfl, ?_⟩ | refine ⟨_, _, rfl, rfl, ?_⟩ | refine .inl ⟨_, rfl, ?_⟩ | walk_at "c")
local macro_rules | `(tactic| walk_at "s") => `(tactic| repeat (walk_at "s1"))
section
variable {P : Program} {w : World} {K : PySem.W.Frag} {mg : Str → Option Value} {base : Heap}
section
variable {H : Hp} {a : Addr} {sg : List Nat} {ms : List (List Nat)} {f : List Nat} {tg : List Nat → Nat → List Nat} {pm pl : Addr} {ad : List Nat → Addr}
theorem Told.signs (t : Told H a sg ms f tg pm pl ad) : DGet H a (.str (Str.ofString "signs")) (some (.str (S sg))) := .inl ⟨_, .inr "signs", .inl t.ha, rfl, by unfold tdK; rw [valV_pos rfl]⟩
theorem ne_keys {x y : Str} (h : ¬ x = y) : ¬ (Sum.inr x : Key) = Sum.inr y := fun e => h (Sum.inr.inj e)
theorem Told.marks (t : Told H a sg ms f tg pm pl ad) : DGet H a (.str (Str.ofString "marks")) (some (.ref pm)) := .inl ⟨_, .inr "marks", .inl t.ha, rfl, by
  unfold tdK; rw [valV_neg (ne_keys (by decide +kernel)), valV_pos rfl]⟩
theorem Told.first (t : Told H a sg ms f tg pm pl ad) : DGet H a (.str (Str.ofString "first")) (some (.str (S f))) := .inl ⟨_, .inr "first", .inl t.ha, rfl, by
  unfold tdK; rw [valV_neg (ne_keys (by decide +kernel)), valV_neg (ne_keys (by decide +kernel)), valV_pos rfl]⟩
theorem Told.leads (t : Told H a sg ms f tg pm pl ad) : DGet H a (.str (Str.ofString "leads")) (some (.ref pl)) := .inl ⟨_, .inr "leads", .inl t.ha, rfl, by
  unfold tdK; rw [valV_neg (ne_keys (by decide +kernel)), valV_neg (ne_keys (by decide +kernel)), valV_neg (ne_keys (by decide +kernel)), valV_pos rfl]⟩
theorem Told.mark (t : Told H a sg ms f tg pm pl ad) {m : List Nat} (h : m ∈ ms) : DGet H pl (.str (S m)) (some (.ref (ad m))) := .inl ⟨_, tk m, .inl t.hpl, rfl, (valV_map' (key := tk) (f := fun m => V.ref (ad m)) (fun _ _ => tk_inj) h).symm⟩
theorem Told.at_ (t : Told H a sg ms f tg pm pl ad) {m : List Nat} (h : m ∈ ms) {c : Nat} (hc : c ∈ sg) : DGet H (ad m) (.str (S [c])) (some (.str (S (tg m c)))) :=
  .inl ⟨_, tk [c], .inl (t.had m h), rfl, (valV_map' (key := fun c => tk [c]) (f := fun c => V.str (S (tg m c))) (fun _ _ e => (List.cons.inj (tk_inj e)).1) hc).symm⟩
theorem Told.same {H' : Hp} (t : Told H a sg ms f tg pm pl ad) (s : Same H H') : Told H' a sg ms f tg pm pl ad := ⟨s _ _ t.ha, s _ _ t.hpm, s _ _ t.hpl, fun m h => s _ _ (t.had m h)⟩
theorem Told.bx {H' : Hp} {b : Addr} (t : Told H a sg ms f tg pm pl ad) (s : Bx b H H') (hb : BoxAt b H) (n : pm ≠ b) : Told H' a sg ms f tg pm pl ad :=
  ⟨s.1 _ _ (dict_ne_box hb t.ha) t.ha, s.1 _ _ n t.hpm, s.1 _ _ (dict_ne_box hb t.hpl) t.hpl, fun m h => s.1 _ _ (dict_ne_box hb (t.had m h)) (t.had m h)⟩
end
def Ov (sg l : List Nat) : Prop := ∀ c ∈ l, c ∈ sg
def ledTo (tg : List Nat → Nat → List Nat) (m : List Nat) (row : List Nat) : List Nat := row.foldl tg m
theorem led_in {sg : List Nat} {ms : List (List Nat)} {tg : List Nat → Nat → List Nat} (htg : ∀ m ∈ ms, ∀ c ∈ sg, tg m c ∈ ms) : ∀ {row : List Nat} {m : List Nat}, Ov sg row → m ∈ ms → ledTo tg m row ∈ ms
  | [], _, _, h => h
  | c :: row, m, ho, h => led_in htg (row := row) (fun d hd => ho d (List.mem_cons_of_mem _ hd)) (htg m h c (ho c List.mem_cons_self))
abbrev s_led : Stmt := top 48
abbrev n_led : List Str := ["told", "mark", "row", "sign"]
theorem sc_led : FnScope n_led ["told", "mark", "row"] (fnScope s_led) := fnScope_by (by decide +kernel)
def spLed : Sp := fun vs H Q _ => ∃ (a : Addr) (sg : List Nat) (ms : List (List Nat)) (f : List Nat) (tg : List Nat → Nat → List Nat) (pm pl : Addr) (ad : List Nat → Addr) (m row : List Nat), vs = [.ref a, .str (S m), .str (S row)] ∧
  Told H a sg ms f tg pm pl ad ∧ (∀ m ∈ ms, ∀ c ∈ sg, tg m c ∈ ms) ∧ m ∈ ms ∧ Ov sg row ∧ Q (.str (S (ledTo tg m row))) H
theorem ok_led (T : BT mg) {f : Addr} {fd : FuncData} (F : Def K mg "_law_led" s_led f fd) (b : Binds K fd ["told", "mark", "row"] []) : Cal P w K mg base 1 "_law_led" spLed [] := by
  refine cal0 F b .nil sc_led (fun vs H Q E h => ?_) (fun cdv A outer s H vs Q E hr h => ?_)
  · obtain ⟨a, sg, ms, f, tg, pm, pl, ad, m, row, rfl, _⟩ := h; rfl
  · obtain ⟨a, sg, ms, f, tg, pm, pl, ad, m, row, rfl, t, htg, hm, ho, k⟩ := h
    refine ⟨_, (pss_cons (ps_for PassesOwn.never rfl (pi_str (pv 2)) (pg_name (i := 3) sc_led.nd rfl (.inl rfl)) 
        (pss_one (ps_set (i := 1) sc_led.nd rfl (.inl rfl) (pe_dget (hu_of hr) (pe_dget (hu_of hr) (pe_dget (hu_of hr) (pv 0) pe_str (fun _ _ => rfl)) (pv 1) (fun _ _ => rfl)) (pv 3) (fun _ _ => rfl)))
        ))
      (pss_one (ps_ret (pv 1))
      )), ?_⟩
    refine ⟨_, rfl, _, rfl, for_it walk_str (fun i σ H' => ∃ s3 : Option V, σ = [some (.ref a), some (.str (S (ledTo tg m (row.take i)))), some (.str (S row)), s3] ∧ H' = H) ⟨none, rfl, rfl⟩ (fun _ _ _ _ _ => trivial) ?_ ?_⟩
    · rintro i x σ H1 H1' hi ⟨s3, rfl, rfl⟩ ⟨rfl, c, hc, rfl⟩
      have hc' : row[i]? = some c := by simpa [S] using hc
      have hmi : ledTo tg m (row.take i) ∈ ms := led_in htg (fun d hd => ho d (List.mem_of_mem_take hd)) hm
      refine ⟨_, rfl, _, _, rfl, t.leads, ?_⟩
      refine ⟨_, rfl, _, _, rfl, t.mark hmi, ?_⟩
      refine ⟨_, rfl, _, _, rfl, t.at_ hmi (ho c (List.mem_of_getElem? hc')), ?_⟩
      have e1 : ledTo tg m (row.take (i + 1)) = tg (ledTo tg m (row.take i)) c := by
        rw [take_more hc']
        unfold ledTo
        rw [List.foldl_append]
        rfl
      exact ⟨_, by rw [e1]; rfl, rfl⟩
    · rintro σ H1 ⟨s3, rfl, rfl⟩
      refine ⟨_, rfl, ?_⟩
      have e : row.take (S row).cps.size = row := by rw [show (S row).cps.size = row.length by simp [S], List.take_length]
      show Q (V.str (S (ledTo tg m (List.take (S row).cps.size row)))) H1
      rw [e]
      exact k
def level (sg : List Nat) : Nat → List (List Nat)
  | 0 => [[]]
  | n + 1 => (level sg n).flatMap fun r => sg.map fun c => r ++ [c]
def upto (sg : List Nat) : Nat → List (List Nat)
  | 0 => [[]]
  | n + 1 => upto sg n ++ level sg (n + 1)
theorem level_len {sg : List Nat} (h : sg.length ≤ 3) : ∀ n, (level sg n).length ≤ 3 ^ n
  | 0 => Nat.le_refl _
  | n + 1 => by
    have ih := level_len h n
    have e : ∀ l : List (List Nat), (l.flatMap fun r => sg.map fun c => r ++ [c]).length = l.length * sg.length := by
      intro l
      induction l with
      | nil => simp
      | cons r l ih => rw [List.flatMap_cons, List.length_append, ih, List.length_map, List.length_cons, Nat.add_mul]; omega
    show ((level sg n).flatMap fun r => sg.map fun c => r ++ [c]).length ≤ _
    rw [e, Nat.pow_succ]
    exact Nat.mul_le_mul ih h
theorem upto_len {sg : List Nat} (h : sg.length ≤ 3) : ∀ n, (upto sg n).length ≤ 2 * 3 ^ n
  | 0 => by show 1 ≤ 2; decide
  | n + 1 => by
    have ih := upto_len h n
    have := level_len h (n + 1)
    show (upto sg n ++ level sg (n + 1)).length ≤ _
    rw [List.length_append]
    rw [Nat.pow_succ] at this ⊢
    omega
theorem level_row {sg : List Nat} : ∀ {n : Nat} {r : List Nat}, r ∈ level sg n → r.length = n ∧ Ov sg r
  | 0, r, h => by
    rw [List.mem_singleton.mp h]
    exact ⟨rfl, fun _ h => nomatch h⟩
  | n + 1, r, h => by
    obtain ⟨q, hq, hr⟩ := List.mem_flatMap.mp h
    obtain ⟨c, hc, rfl⟩ := List.mem_map.mp hr
    obtain ⟨i1, i2⟩ := level_row hq
    refine ⟨by rw [List.length_append, i1]; rfl, fun d hd => ?_⟩
    rcases List.mem_append.mp hd with h | h
    · exact i2 d h
    · rw [List.mem_singleton.mp h]; exact hc
theorem upto_row {sg : List Nat} : ∀ {n : Nat} {r : List Nat}, r ∈ upto sg n → r.length ≤ n ∧ Ov sg r
  | 0, r, h => by
    rw [List.mem_singleton.mp h]
    exact ⟨Nat.le_refl _, fun _ h => nomatch h⟩
  | n + 1, r, h => by
    rcases List.mem_append.mp h with h | h
    · obtain ⟨a, b⟩ := upto_row h
      exact ⟨Nat.le_succ_of_le a, b⟩
    · obtain ⟨a, b⟩ := level_row h
      exact ⟨Nat.le_of_eq a, b⟩
abbrev s_rows : Stmt := top 49
abbrev n_rows : List Str := ["signs", "most", "found", "last", "turn", "longer", "row", "sign"]
theorem sc_rows : FnScope n_rows ["signs", "most"] (fnScope s_rows) := fnScope_by (by decide +kernel)
def spRows : Sp := fun vs H Q _ => ∃ (sg : List Nat) (n : Nat), vs = [.str (S sg), .int n] ∧ sg.length ≤ 3 ∧ n ≤ 5 ∧ ∀ (p : Addr) (H' : Hp), Same H H' → H p = none → H' p = some (.lst (txs (upto sg n))) → Q (.ref p) H'
theorem ok_rows (T : BT mg) {f : Addr} {fd : FuncData} (F : Def K mg "_law_rows" s_rows f fd) (b : Binds K fd ["signs", "most"] []) : Cal P w K mg base 1 "_law_rows" spRows [] := by
  refine cal0 F b .nil sc_rows (fun vs H Q E h => ?_) (fun cdv A outer s H vs Q E hr h => ?_)
  · obtain ⟨sg, n, rfl, _⟩ := h; rfl
  · obtain ⟨sg, n, rfl, hl3, hn5, k⟩ := h
    refine ⟨_, (pss_cons (ps_par (i := 2) (j := 3) rfl sc_rows.nd rfl rfl (by decide) rfl rfl (pa_cons (pe_lst (pa_cons pe_str pa_nil)) (pa_cons (pe_lst (pa_cons pe_str pa_nil)) pa_nil)) rfl)
      (pss_cons (ps_for PassesOwn.never rfl (pi_range1 (by rfl) T.m_range (pa_cons (pv 1) pa_nil)) (pg_name (i := 4) sc_rows.nd rfl (.inl rfl)) 
        (pss_cons (ps_set (i := 5) sc_rows.nd rfl (.inl rfl) (pe_lst pa_nil))
        (pss_cons (ps_for PassesOwn.never rfl (pi_list (pv 3)) (pg_name (i := 6) sc_rows.nd rfl (.inr rfl)) 
          (pss_one (ps_expr (pe_bm PySem.F.plainAttrs_list PySem.F.slot_list_extend PySem.F.type_list_extend mt_extend (pv 5) (pa_cons (pe_lc (own := [("sign", 7)]) rfl sc_rows.nd (pi_str (pv 0)) (blkOk_by (N := n_rows) (sc := fnScope s_rows) (by decide +kernel)) (fun _ _ _ _ _ => (pg_name (i := 7) sc_rows.nd rfl (.inl rfl))) (fun _ _ _ _ _ => pts_nil) (fun _ _ _ _ _ => (pe_op op_add_str (pv 6) (pv 7)))) pa_nil)))
          ))
        (pss_one (ps_par (i := 2) (j := 3) rfl sc_rows.nd rfl rfl (by decide) rfl rfl (pa_cons (pe_op op_cat (pv 2) (pv 5)) (pa_cons (pv 5) pa_nil)) rfl)
        ))))
      (pss_one (ps_ret (pv 2))
      ))), ?_⟩
    refine ⟨by decide, fun p0 hp0 => ?_⟩
    refine ⟨by decide, fun q0 hq0 => ?_⟩
    have hpq : p0 ≠ q0 := fun e => by rw [← e, upd_same] at hq0; cases hq0
    have s0 : Same H (upd (upd H p0 (.lst [.str ""])) q0 (.lst [.str ""])) := sm_put' (sm_new hp0) hq0
    refine ⟨_, _, rfl, ?_⟩
    refine ⟨_, rfl, (n : Int), rfl, by omega, by omega, ?_⟩
    refine for_it (walk_range (lo := 0)) (fun i σ H' => ∃ (p q : Addr) (s4 s5 s6 s7 : Option V), σ = [some (.str (S sg)), some (.int n), some (.ref p), some (.ref q), s4, s5, s6, s7] ∧ Same H H' ∧ H p = none ∧ H' p = some (.lst (txs (upto sg i))) ∧ H' q = some (.lst (txs (level sg i))))
      ⟨p0, q0, _, _, _, _, rfl, s0, hp0, by rw [upd_ne hpq, upd_same, s_nil]; rfl, by rw [upd_same, s_nil]; rfl⟩ (fun _ _ _ _ _ => trivial) ?_ ?_
    · rintro i x σ H1 H1' hi ⟨p, q, s4, s5, s6, s7, rfl, s1, hp, hp1, hq1⟩ ⟨rfl, rfl⟩
      have hi5 : i < 5 := by have : (n : Int).toNat = n := Int.toNat_natCast n; omega
      have p3 : 3 ^ i ≤ 81 := Nat.le_trans (Nat.pow_le_pow_right (by decide) (show i ≤ 4 by omega)) (by decide)
      have hll := level_len hl3 i
      have hul := upto_len hl3 i
      refine ⟨Nat.zero_le _, fun g hg => ?_⟩
      have s2 : Same H1' (upd H1' g (.lst [])) := sm_new hg
      refine ⟨_, rfl, _, rfl, ⟨_, SqL.of (s2 _ _ hq1)⟩, for_it (walk_list (K := K) (a := q) (xs := txs (level sg i))) (fun j σ H' => ∃ (s6 s7 : Option V), σ = [some (.str (S sg)), some (.int n), some (.ref p), some (.ref q), some (.int (0 + (i : Int))), some (.ref g), s6, s7] ∧ Same H1' H' ∧
          H' g = some (.lst (txs (((level sg i).take j).flatMap fun r => sg.map fun c => r ++ [c]))))
        ⟨_, _, rfl, s2, upd_same⟩ (fun j σ H' _ ⟨_, _, _, s, _⟩ => SqL.of (s _ _ hq1)) ?_ ?_⟩
      · rintro j x σ H2 H2' hj ⟨s6, s7, rfl, s3, hg3⟩ ⟨rfl, hx⟩
        obtain ⟨r, hr, rfl⟩ := txs_get hx
        obtain ⟨r1, r2⟩ := level_row (List.mem_of_getElem? hr)
        refine ⟨_, rfl, .inl ⟨rfl, _, SqL.of hg3⟩, ?_⟩
        refine ⟨_, rfl, _, rfl, fun D hD => lc_keep keep_same walk_str hD (by show sg.length < sizeLine; exact small1000 (by omega)) (fun j y => ∀ c, sg[j]? = some c → y = .str (S (r ++ [c]))) (fun _ _ => trivial) (fun i x H3 H4 R hii r1 hy hR => ?_) (fun ys H3 hly hgd r3 hDs => ?_)⟩
        · obtain ⟨rfl, c, hc, rfl⟩ := hy
          have hc' : sg[i]? = some c := by simpa [S] using hc
          refine ⟨rfl, ?_⟩
          refine ⟨_, rfl, _, rfl, S r, S [c], rfl, rfl, by rw [S_len, S_len]; exact sz (m := 10) (by simp; omega) (by decide), ?_⟩
          exact hR _ _ (Same.refl _) fun c' h => by rw [hc'] at h; rw [← Option.some.inj h, S_cat]
        have eys : ys = txs (sg.map fun c => r ++ [c]) := by
          unfold txs; rw [List.map_map]
          exact list_map (hly.trans (by simp [S])) fun j y c e1 e2 => hgd j y e1 c e2
        subst eys
        have hg4 := r3 _ _ hg3
        have hgl : (txs (((level sg i).take j).flatMap fun r => sg.map fun c => r ++ [c])).length + (txs (sg.map fun c => r ++ [c])).length ≤ sizeLine := by
          have hsub : ((level sg i).take j ++ [r]).length ≤ (level sg i).length := by rw [← take_more hr, List.length_take]; omega
          have e : ∀ l : List (List Nat), (l.flatMap fun r => sg.map fun c => r ++ [c]).length ≤ l.length * 3 := by
            intro l
            induction l with
            | nil => simp
            | cons r l ih => rw [List.flatMap_cons, List.length_append, List.length_map, List.length_cons, Nat.add_mul]; omega
          have := e ((level sg i).take j)
          rw [List.length_append, List.length_singleton] at hsub
          rw [txs_len, txs_len, List.length_map]
          exact sz (m := 800) (by omega) (by decide)
        refine ⟨g, D, _, _, rfl, rfl, hg4, hDs, hgl, ?_⟩
        refine ⟨_, _, rfl, sm_put (s3.trans r3) hg, ?_⟩
        rw [upd_same, take_more hr, List.flatMap_append]
        unfold txs
        rw [List.map_append]
        simp
      · rintro σ H2 ⟨s6, s7, rfl, s3, hg3⟩
        rw [txs_len, List.take_length] at hg3
        have hg3' : H2 g = some (.lst (txs (level sg (i + 1)))) := hg3
        have hll' := level_len hl3 (i + 1)
        refine ⟨_, rfl, _, rfl, p, g, _, _, rfl, rfl, s3 _ _ hp1, hg3', by rw [txs_len, txs_len]; rw [Nat.pow_succ] at hll'; exact sz (m := 1000) (by omega) (by decide), fun p2 hp2 => ?_⟩
        have s4 : Same H2 (upd H2 p2 (.lst (txs (upto sg i) ++ txs (level sg (i + 1))))) := sm_new hp2
        refine ⟨_, rfl, _, _, rfl, ?_⟩
        refine ⟨p2, g, _, _, _, _, rfl, (s1.trans s3).trans s4, (s1.trans s3).free hp2, ?_, s4 _ _ hg3'⟩
        rw [upd_same]; unfold txs; rw [← List.map_append]; rfl
    · rintro σ H1 ⟨p, q, s4, s5, s6, s7, rfl, s1, hp, hp1, hq1⟩
      refine ⟨_, rfl, ?_⟩
      exact k p H1 s1 hp (by rw [hp1, Int.toNat_natCast])
end
end Toy
set_option maxHeartbeats 2000000
namespace LX
open PySem PySem.Spec PyProof.Rows L2 C8 SX
structure FnG (P : Program) (w : World) (K : PySem.W.Frag) (mg : Str → Option Value) (base : Heap) (k : Nat) (f : Addr) (fd : FuncData) (ps : List Str) (sp : Sp) : Prop where
  many : ∀ vs H Q E, sp vs H Q E → vs.length = ps.length
  goes : ∀ (A : Around) (ou : List Env) (t : Shared) (H : Hp) (gs : Args) (us : List Value) (vs : List V) (Q : VK) (E : XK), A.guards = some [] → Room k A → Env0 P w K mg base A ou t H → BindsTo t fd gs (ps.zip us) → Vals vs us →
    sp vs H Q E → codeAny (model P w) A (.call (.ref f) gs) (CR C8.CX0 ou P w H t Q E) t
theorem FnG.of {P : Program} {w : World} {K : PySem.W.Frag} {mg : Str → Option Value} {base : Heap} {k : Nat} {f : Addr} {fd : FuncData} {ps : List Str} {sp : Sp} (F : FnOk P w K mg base C8.CX0 k f fd ps sp) : FnG P w K mg base k f fd ps sp :=
  ⟨F.len, fun A ou t H gs us vs Q E _ => F.run A ou t H gs us vs Q E⟩
theorem fnG0 {P : Program} {w : World} {K : PySem.W.Frag} {mg : Str → Option Value} {base : Heap} {x ql : Str} {st : Stmt} {f : Addr} {fd : FuncData} {N ps : List Str} {k : Nat} {sp : Sp} (F : C8.Fun K x ql st f fd) (Sc : FnScope N ps (C8.fnScope st))
    (many : ∀ vs H Q E, sp vs H Q E → vs.length = ps.length)
    (h : ∀ (cd : Value) (A : Around) (ou : List Env) (t : Shared) (H : Hp) (vs : List V) (Q : VK) (E : XK), A.guards = some [] → Room k (A.deeper (envOfC ql (C8.fnScope st) t.heap.objs.size f cd)) → sp vs H Q E →
      ∃ r, PSs (cxOf C8.CX0 P w K mg base N ql (C8.fnScope st) f cd A ou t H E).nox (C8.fnBody st) r ∧ r { nx := fun _ H' => Q .non H', rt := Q } (L2.start N vs) H) : FnG P w K mg base (k + 1) f fd ps sp := by
  obtain ⟨oc, od, dV, kV, doc, pm, an, cd, ct, osl, rfl, at_, code⟩ := F.ex
  constructor
  · exact many
  intro A ou t H gs us vs Q E gd room e0 bound rel want
  have count := many _ _ _ _ want
  have old : ∀ (b : Addr) (o : Obj), base.get? b = some o → t.heap.get? b = some o := fun b o e => (e0.bs b o e).1
  have KT : K.In t.heap := e0.mod.kin.keeps old
  have kinds : ∀ y ∈ ps.zip us, (C8.fnScope st).names.lookup y.1 = some .local ∨ ((C8.fnScope st).names.lookup y.1 = some .cell ∧ ((cellsFrom (t.heap.objs.size + 1) (C8.fnScope st).names []).lookup y.1).isSome = true) := by
    intro y hy
    obtain ⟨n, v⟩ := y
    exact (Sc.par n (List.of_mem_zip hy).1).elim .inl fun q => .inr ⟨q, PySem.W.cellsFrom_some _ _ _ (.inl q)⟩
  refine codeAny_call_function room.depth (KT _ _ at_) rfl Sc.co Sc.gen rfl (PySem.W.codeRec_of KT code) (bound _ _ _ _ ?_)
  refine wpAny_newFunctionEnv_cells Sc.kind kinds fun en en_is t1 inside => ?_
  subst en_is
  refine ⟨(e0.mod.nolimit.keeps old).keeps inside.toInCall.keep, codeAny_func ?_⟩
  obtain ⟨r, body, read⟩ := h cd A ou t H vs Q E gd (room.deeper _) want
  have I0 := inv_start (CX := C8.CX0) (E := E) Sc room.hd e0 count rel inside
  refine wpAny_mono (body.nox.run [] t1 (L2.start N vs) H _ I0 read) (fun fl t' got => ?_) fun _ _ got => got
  cases fl with
  | ret u => exact let ⟨v, _, H', J, rv, q⟩ := got; ⟨v, H', J.os, J.bare, J.base, J.hok, rv, q⟩
  | next => exact let ⟨_, H', J, q⟩ := got; ⟨.non, H', J.os, J.bare, J.base, J.hok, rfl, q⟩
  | brk => exact let ⟨_, _, _, q⟩ := got; False.elim q
  | cont => exact let ⟨_, _, _, q⟩ := got; False.elim q
structure CalG (P : Program) (w : World) (K : PySem.W.Frag) (mg : Str → Option Value) (base : Heap) (k : Nat) (x : Str) (sp : Sp) : Prop where
  ex : ∃ (f : Addr) (fd : FuncData) (ps : List Str), FnG P w K mg base k f fd ps sp ∧ mg x = some (.ref f) ∧ PySem.W.keepIn K (.ref f) = true ∧ Binds K fd ps []
structure MetG (P : Program) (w : World) (K : PySem.W.Frag) (mg : Str → Option Value) (base : Heap) (k : Nat) (C : Addr) (m : Str) (sp : Sp) : Prop where
  ex : ∃ (f : Addr) (fd : FuncData) (ps : List Str), Cls K C ∧ Meth K C m f ∧ FnG P w K mg base k f fd ps sp ∧ Binds K fd ps []
section
variable {X : Cx} {k j : Nat} {f C : Addr} {fd : FuncData} {ps : List Str} {sp : Sp} {x m : Str} {p pos apos : Pos} {e o : Expr} {es : List Expr} {ta : TE} {t : TA}
theorem goesG {pins : List (Addr × Obj)} {σ : L2.St} {H : Hp} {s : Shared} {Q : VK} {us : List Value} {vs : List V} (F : FnG X.prog X.w X.K X.mg X.base k f fd ps sp) (gd : X.A.guards = some []) (room : Room k X.A) (bd : Binds X.K fd ps [])
    (I : Inv X pins σ H s) (rel : Vals vs us) (want : sp (vs ++ []) H Q C8.E0) : wpAny (model X.prog X.w) X.A (call (.ref f) us) (EP X pins σ Q) X.xe s := by
  rw [List.append_nil] at want
  have count : (us ++ []).length = ps.length := by rw [List.append_nil, ← rel.length]; exact F.many _ _ _ _ want
  have bs := bd s us I.kIn count
  rw [List.append_nil] at bs
  refine wpAny_call (codeAny_mono (F.goes X.A X.stack s H ⟨us, []⟩ us vs Q C8.E0 gd room I.env0 bs rel want) fun r t' got => ?_)
  match r, got with
  | .ok (.ret u), got => exact I.after got
theorem pe_cG (c : CalG X.prog X.w X.K X.mg X.base k x sp) (gd : X.A.guards = some []) (room : Room j X.A) (hk : k ≤ j) (hg : Gl X x) (ha : PA X (e :: es) t) (hdb : (x == ("__debug__" : Str)) = false := by decide)
    (he : starEach (e :: es) X.env = (false, eval e X.env) :: starEach es X.env := by rfl) (hpl : (backTo pos (starEach es X.env)).any (·.1) = false := by rfl) : PE X (.Call (.Name x p) (e :: es) [] pos) (tCall sp [] C8.E0 t) := by
  obtain ⟨f, fd, ps, F, named, kept, bd⟩ := c.ex
  constructor
  intro pins s σ H Q I want
  refine wpAny_Call_Name_kw (ld_glob I hg named ?_ hdb)
  refine PySem.W.callWith_K (h₀ := X.base) I.ok.mod.kin kept (thn (ha.run pos pins s σ H _ I want) ?_) he hpl
  rintro us s1 ⟨vs, H1, I1, rel, q⟩
  exact ⟨I1.kIn, goesG F gd (room.mono hk) bd I1 rel q⟩
theorem call_reprG (gd : X.A.guards = some []) (room : Room j X.A) : CallR X (.builtin "repr") (fun xs H Q => ∃ (a : Addr) (d : PyData), xs = [.ref a] ∧ Dp X.K H (.ref a) d ∧ d.showable = true ∧ d.hasDict = false ∧ d.depth ≤ 60 ∧ d.shown.length ≤ sizeLine ∧ Q (.str d.shown) H) := by
  intro pins s σ H xs us Q I rel want
  obtain ⟨a, d, rfl, hd, sh, nd, dep, sz, q⟩ := want
  obtain ⟨u, rfl, ru⟩ := vals1 rel
  obtain rfl : u = Value.ref a := ru
  obtain ⟨as, rd⟩ := Dp.reads I d (.ref a) (.ref a) hd rfl
  have un := room.un
  refine repr_of_reads' rd sh (PyData.noDict_hsm nd) gd (by omega) (fun _ _ z => z) (fun h' u tk kept => ?_) sz
  exact ⟨.str d.shown, H, I.kept kept, ⟨_, rfl⟩, q⟩
end
abbrev Done (s s' : Shared) (r : Result) : Prop := r = .ok (.ret (.bool true)) ∧ OldK s.heap s'.heap ∧ s'.os = s.os ∧ AllBare s'.gens
section
variable {P : Program} {w : World} {K : PySem.W.Frag} {mg mb : Str → Option Value} {k : Nat} {fa a : Addr} {fd : FuncData} {x : Str} {sp : Sp} {s : Shared} {vs : List Value} {ns : List Int}
theorem lawG_at {H : Hp} (KX : K.In s.heap) (hns : s.heap.Ns mainGlobals mg) (hb : s.heap.Ns builtinsNs mb) (hbb : ∀ x : Str, x ≠ "__name__" → mb x = bootBuiltins x) (lim : s.heap.NoLimit) (gens : s.gens = #[])
    (ha : s.heap.get? a = some { cls := .type "list", data := .seq vs.toArray }) (room : Room k callerA) (F : ∀ base : Heap, K.In base → base.Ns mainGlobals mg → FnG P w K mg base k fa fd [x] sp)
    (bd : ∀ (s : Shared) (u : Value), BindsTo s fd ⟨[u], []⟩ [(x, u)]) (only : Only H) (want : sp [.ref a] H (fun v _ => v = .bl true) C8.E0) (ok : HOk P w H s.heap) (at_a : ∀ b, H b ≠ none → b = a) (not_K : H a ≠ none → K.lookup a = none) :
    codeAny (model P w) callerA (.call (.ref fa) ⟨[.ref a], []⟩) (fun r s' => Done s s' r) s := by
  have free : ∀ {b : Addr}, b ≠ a → H b = none := fun {b} hn => by
    cases q : H b with
    | none => rfl
    | some u => exact absurd (at_a b (by rw [q]; simp)) hn
  have dict_free : ∀ {b : Addr} {o : Obj} {es : Array DictEntry} {ep : Nat}, s.heap.get? b = some o → o.data = .dict es ep → H b = none := fun {b o es ep} e d => free fun eq => by
    rw [eq, ha] at e
    cases e
    have d2 : Data.seq vs.toArray _ = Data.dict es ep := d
    cases d2
  have names : ∀ {b : Addr} {m : Str → Option Value}, s.heap.Ns b m → (hidT s.heap H).Ns b m := fun {b m} ⟨o, es, ep, e, d, r⟩ => ⟨o, es, ep, hidT_get e (dict_free e d), d, r⟩
  have hK : K.In (hidT s.heap H) := fun b o e => hidT_get (KX b o e) (by
    by_cases eq : b = a
    · subst eq
      cases q : H b with
      | none => rfl
      | some u => rw [not_K (by rw [q]; simp)] at e; cases e
    · exact free eq)
  have md : Mod K mg (hidT s.heap H) := by
    obtain ⟨mc, c1, c2⟩ := lim
    exact ⟨hK, names hns, ⟨mb, names hb, hbb⟩, mc, names c1, c2⟩
  have e0 : Env0 P w K mg (hidT s.heap H) callerA [] s H := ⟨rfl, md, fun _ _ e => of_hidT e, Nat.le_of_eq (hidT_size _ _), trivial, fun _ hm => absurd hm (List.not_mem_nil), ok, .of_eq gens⟩
  refine codeAny_mono ((F _ hK (names hns)).goes callerA [] s H ⟨[.ref a], []⟩ [.ref a] [.ref a] _ _ rfl room e0 (bd s (.ref a)) (.cons rfl .nil) want) fun r t got => ?_
  match r, got with
  | .ok (.ret u), got =>
    obtain ⟨v, H2, os, bare, un, ok2, rel, is_true⟩ := got
    obtain rfl : v = V.bl true := is_true
    obtain rfl : u = Value.bool true := rel
    refine ⟨rfl, OldK.of_keep fun b o e => ?_, os, bare⟩
    rcases only b with none_ | ⟨ob, xs, frozen⟩
    · exact un.keep b o e none_ (fun z => absurd z List.not_mem_nil) (by simp)
    · obtain ⟨e1, _⟩ := ok b _ frozen
      obtain ⟨e2, _⟩ := ok2 b _ (un.frzs b ob _ frozen)
      rw [e] at e1
      cases e1
      exact e2
theorem lawG_call (KX : K.In s.heap) (hns : s.heap.Ns mainGlobals mg) (hb : s.heap.Ns builtinsNs mb) (hbb : ∀ x : Str, x ≠ "__name__" → mb x = bootBuiltins x) (lim : s.heap.NoLimit) (gens : s.gens = #[])
    (ha : s.heap.get? a = some { cls := .type "list", data := .seq vs.toArray }) (hi : IntsAre vs ns) (hl : ns.length ≤ sizeLine) (room : Room k callerA) (F : ∀ base : Heap, K.In base → base.Ns mainGlobals mg → FnG P w K mg base k fa fd [x] sp)
    (bd : ∀ (s : Shared) (u : Value), BindsTo s fd ⟨[u], []⟩ [(x, u)]) (want : ∀ H : Hp, Only H → SqL K H a (ns.map V.int) → sp [.ref a] H (fun v _ => v = .bl true) C8.E0) :
    codeAny (model P w) callerA (.call (.ref fa) ⟨[.ref a], []⟩) (fun r s' => Done s s' r) s := by
  have rel := vals_ints hi
  cases own : K.lookup a with
  | some o =>
    have e := KX a o own
    rw [ha] at e
    cases e
    have only : Only (fun _ => none : Hp) := fun _ => .inl rfl
    have sq : SqL K (fun _ => none) a (ns.map V.int) := .inr ⟨_, vs.toArray, _, own, rfl, rfl, rfl, by rw [List.size_toArray, hi.length]; exact hl, by simpa using rel⟩
    refine lawG_at KX hns hb hbb lim gens ha room F bd only (want _ only sq) ?_ (fun b z => absurd rfl z) fun z => absurd rfl z
    intro b u z
    have z2 : (none : Option HO) = some u := z
    cases z2
  | none =>
    let one : HO := .frz { cls := .type "list", data := .seq vs.toArray } (.lst (ns.map V.int))
    let H : Hp := fun b => if b = a then some one else none
    have here : H a = some one := if_pos rfl
    have else_ : ∀ {b : Addr}, b ≠ a → H b = none := fun hn => if_neg hn
    have only : Only H := fun b => by
      by_cases e : b = a
      · exact .inr ⟨_, _, by rw [e]; exact here⟩
      · exact .inl (else_ e)
    refine lawG_at KX hns hb hbb lim gens ha room F bd only (want H only (.inl (.inr ⟨_, here⟩))) (fun b u z => ?_) (fun b z => ?_) fun _ => own
    · by_cases e : b = a
      · subst e
        rw [here] at z
        cases z
        exact ⟨ha, by rw [List.length_map]; exact hl, vs, _, rel, ha⟩
      · rw [else_ e] at z
        cases z
    · by_cases e : b = a
      · exact e
      · exact absurd (else_ e) z
end
theorem walkG {l : PySem.W.OpenLaw} {n k : Nat} {q : Program} {loose : List Str} {XP : (Str → Option Value) → Heap → Prop} {YP : World → Heap → Prop} {d : DefRec} {K : Params → PySem.W.Frag} {sp : PySem.W.Frag → Sp} {x : Str} (hn : l.most = some n) (hn2 : n ≤ sizeLine)
    (hdf : d.params.defaults = []) (room : Room k callerA) (hY : ∀ (w : World) (h : Heap), YP w h → (K w.params).In h)
    (F : ∀ (w : World) (mg : Str → Option Value) (fa : Addr) (h : Heap), (K w.params).In h → h.Ns mainGlobals mg → mg d.name = some (.ref fa) →
      ∃ fd : FuncData, (∀ (s : Shared) (u : Value), BindsTo s fd ⟨[u], []⟩ [(x, u)]) ∧ ∀ base : Heap, (K w.params).In base → base.Ns mainGlobals mg → FnG l.prog w (K w.params) mg base k fa fd [x] (sp (K w.params)))
    (want : ∀ (K : PySem.W.Frag) (H : Hp) (a : Addr) (ns : List Int), ns.length ≤ n → Only H → SqL K H a (ns.map V.int) → sp K [.ref a] H (fun v _ => v = .bl true) C8.E0) : PySem.W.WalkO q loose XP YP l.row.toRowW d [] (fun f vs => PySem.call f vs) := by
  refine Att.attach_call hn hdf ?_
  intro w s0 s1 mg mb fa o pm cd doc a vs ns G Y _ _ _ named list_ nums few gens
  have KX := hY w _ Y
  obtain ⟨fd, bd, F1⟩ := F w mg fa _ KX G.T.g named
  exact lawG_call KX G.T.g G.T.b G.T.builtins G.T.nolimit gens list_ nums (Nat.le_trans few hn2) room F1 bd fun H only sq => want _ H a ns few only sq
end LX
set_option maxHeartbeats 2000000
namespace LX
open PySem PySem.Spec PyProof.Rows L2 C8 SX
section
variable {prog : Program} {w : World} {A : Around} {E : Value → Shared → Prop} {s : Shared} {z TI TO i1 i2 : Addr} {fp1 fp2 : List Addr} {n1 n2 i : Nat} {P1 P2 : Nat → Value → Prop} {St1 St2 : Nat → Heap → Prop}
theorem zipD2_item_held {T : Addr} {f : Bool} {oT : Obj} {Q : Value → Shared → Prop} (S : ZipSep2 z TI TO i1 i2 fp1 fp2) (D1 : Draws prog w A i1 fp1 n1 P1 St1) (D2 : Draws prog w A i2 fp2 n2 P2 St2)
    (hz : IsZipHeld s.heap z TI TO T f) (hT : s.heap.get? T = some oT) (hTI : IsTupOf2 s.heap TI (.ref i1) (.ref i2)) (st1 : St1 i s.heap) (st2 : St2 i s.heap) (hlt1 : i < n1) (hlt2 : i < n2)
    (hQ : ∀ x1 x2 h' tk, P1 i x1 → P2 i x2 → IsZipHeld h' z TI TO T true → St1 (i + 1) h' → St2 (i + 1) h' → IsTupOf2 h' s.heap.objs.size x1 x2 → h'.objs.size = s.heap.objs.size + 1 →
      (∀ c o, c ≠ z → c ≠ i1 → c ≠ i2 → s.heap.get? c = some o → h'.get? c = some o) → Q (.ref s.heap.objs.size) { s with heap := h', toks := tk }) :
    wpAny (model prog w) A (Builtin.«zip.__next__» ⟨[.ref z], []⟩) (fun fin s' => ∃ v, fin = .done (.ret v) ∧ Q v s') E s := by
  show wpAny _ _ (field (.ref z) 2 >>= _) _ _ _
  refine wpAny_bind (wpAny_field hz rfl (x := .bool false) rfl ?_)
  show wpAny _ _ (field (.ref z) 3 >>= _) _ _ _
  refine wpAny_bind (wpAny_field hz rfl (x := .ref TI) rfl ?_)
  refine wpAny_bind (wpAny_seqItems hTI rfl ?_)
  show wpAny _ _ (Builtin.SmallTypes.ownedTupleIsFree (.ref z) >>= _) _ _ _
  refine wpAny_bind (wpAny_tupleHeld_zip hz hT fun h₁ hz₁ hs₁ => ?_)
  simp only [Bool.false_eq_true, if_false]
  refine wpAny_bind ?_
  rw [← Array.forIn_toList]
  simp only [List.forIn_cons, List.forIn_nil]
  refine wpAny_bind (wpAny_bind (wpAny_holding ?_))
  show wpAny _ _ (Builtin.SmallTypes.nextOf (.ref i1) >>= _) _ _ _
  refine wpAny_bind (D1.item i _ _ _ hlt1 (D1.over st1 hs₁ S.zf1) fun x1 h₂ tk₁ p1 h1₂ hs₂ => wpAny_pure ?_)
  refine wpAny_pure ?_
  refine wpAny_bind (wpAny_bind (wpAny_holding ?_))
  show wpAny _ _ (Builtin.SmallTypes.nextOf (.ref i2) >>= _) _ _ _
  refine wpAny_bind (D2.item i _ _ _ hlt2 (D2.over (D2.over st2 hs₁ S.zf2) hs₂ S.sep1_2) fun x2 h₃ tk₂ p2 h2₃ hs₃ => wpAny_pure ?_)
  refine wpAny_pure (wpAny_pure ?_)
  show wpAny _ _ (newTuple [x1, x2] >>= _) _ _ _
  refine wpAny_bind (wpAny_newTuple ?_)
  have hsz : h₃.objs.size = s.heap.objs.size := by rw [hs₃.1, hs₂.1, hs₁.1]
  have hz₃ : IsZipHeld h₃ z TI TO T true := hs₃.extBut _ _ S.zi2 (hs₂.extBut _ _ S.zi1 hz₁)
  have hk : ∀ c o, c ≠ z → c ≠ i1 → c ≠ i2 → s.heap.get? c = some o → h₃.get? c = some o := fun c o c1 c2 c3 e => hs₃.extBut _ _ c3 (hs₂.extBut _ _ c2 (hs₁.extBut _ _ c1 e))
  have h1₃ : St1 (i + 1) h₃ := D1.over h1₂ hs₃ S.sep2_1
  refine wpAny_pure ⟨_, rfl, ?_⟩
  show Q (.ref h₃.objs.size) _
  have hp : IsTupOf2 (h₃.push { cls := .type "tuple", data := .seq #[x1, x2] }) h₃.objs.size x1 x2 := Heap.get?_push_size _ rfl
  have hz4 : (h₃.push { cls := .type "tuple", data := .seq #[x1, x2] }).objs.size = h₃.objs.size + 1 := Heap.size_push ..
  rw [hsz] at hp hz4 ⊢
  exact hQ x1 x2 _ tk₂ p1 p2 (Heap.get?_push_of_some _ hz₃) (D1.frame _ _ _ h1₃ fun b _ o e => Heap.get?_push_of_some _ e) (D2.frame _ _ _ h2₃ fun b _ o e => Heap.get?_push_of_some _ e) hp hz4 fun c o c1 c2 c3 e => Heap.get?_push_of_some _ (hk c o c1 c2 c3 e)
theorem zipD2_end_held {T : Addr} {f : Bool} {oT : Obj} {Q : Fin → Shared → Prop} (S : ZipSep2 z TI TO i1 i2 fp1 fp2) (D1 : Draws prog w A i1 fp1 n1 P1 St1) (D2 : Draws prog w A i2 fp2 n1 P2 St2)
    (hz : IsZipHeld s.heap z TI TO T f) (hT : s.heap.get? T = some oT) (hTI : IsTupOf2 s.heap TI (.ref i1) (.ref i2)) (st1 : St1 n1 s.heap)
    (hE : ∀ h' e, (∀ c o, c ≠ z → c ≠ i1 → c ≠ i2 → s.heap.get? c = some o → h'.get? c = some o) → (∃ o, h'.get? e = some o ∧ o.cls = .type "StopIteration") → E (.ref e) { s with heap := h' }) :
    wpAny (model prog w) A (Builtin.«zip.__next__» ⟨[.ref z], []⟩) Q E s := by
  show wpAny _ _ (field (.ref z) 2 >>= _) _ _ _
  refine wpAny_bind (wpAny_field hz rfl (x := .bool false) rfl ?_)
  show wpAny _ _ (field (.ref z) 3 >>= _) _ _ _
  refine wpAny_bind (wpAny_field hz rfl (x := .ref TI) rfl ?_)
  refine wpAny_bind (wpAny_seqItems hTI rfl ?_)
  show wpAny _ _ (Builtin.SmallTypes.ownedTupleIsFree (.ref z) >>= _) _ _ _
  refine wpAny_bind (wpAny_tupleHeld_zip hz hT fun h₁ hz₁ hs₁ => ?_)
  simp only [Bool.false_eq_true, if_false]
  refine wpAny_bind ?_
  rw [← Array.forIn_toList]
  simp only [List.forIn_cons, List.forIn_nil]
  refine wpAny_bind (wpAny_bind (wpAny_holding ?_))
  show wpAny _ _ (Builtin.SmallTypes.nextOf (.ref i1) >>= _) _ _ _
  refine wpAny_bind (D1.done _ _ _ (D1.over st1 hs₁ S.zf1) fun h₂ e hs₂ he => ?_)
  exact hE h₂ e (fun c o c1 c2 _ x => hs₂ _ _ c2 (hs₁.extBut _ _ c1 x)) he
theorem pyNext_zipD2_item_held {T : Addr} {f : Bool} {oT : Obj} {Q : Option Value → Shared → Prop} (S : ZipSep2 z TI TO i1 i2 fp1 fp2) (D1 : Draws prog w A.in1 i1 fp1 n1 P1 St1) (D2 : Draws prog w A.in1 i2 fp2 n2 P2 St2)
    (hz : IsZipHeld s.heap z TI TO T f) (hT : s.heap.get? T = some oT) (hTI : IsTupOf2 s.heap TI (.ref i1) (.ref i2)) (st1 : St1 i s.heap) (st2 : St2 i s.heap) (hlt1 : i < n1) (hlt2 : i < n2)
    (hQ : ∀ x1 x2 h' tk, P1 i x1 → P2 i x2 → IsZipHeld h' z TI TO T true → St1 (i + 1) h' → St2 (i + 1) h' → IsTupOf2 h' s.heap.objs.size x1 x2 → h'.objs.size = s.heap.objs.size + 1 →
      (∀ c o, c ≠ z → c ≠ i1 → c ≠ i2 → s.heap.get? c = some o → h'.get? c = some o) → Q (some (.ref s.heap.objs.size)) { s with heap := h', toks := tk }) :
    wpAny (model prog w) A (pyNext (.ref z)) Q E s := by
  have hTy : s.TypeIs (.ref z) "zip" := ⟨_, hz, rfl⟩
  unfold pyNext
  exact wpAny_bind (wpAny_attempt (wpAny_callSpecial?_slot (name := Str.ofString "__next__") hTy F.slot_zip_next
    (wpAny_call_entry F.slot_zip_next hTy F.entry_zip_next
      (zipD2_item_held S D1 D2 hz hT hTI st1 st2 hlt1 hlt2 fun x1 x2 h' tk y1 y2 a1 a3 a4 a5 a6 a7 => wpAny_pure (hQ x1 x2 h' tk y1 y2 a1 a3 a4 a5 a6 a7)) (F.args_zip_next_1 _))))
theorem pyNext_zipD2_end_held {T : Addr} {f : Bool} {oT : Obj} {Q : Option Value → Shared → Prop} (S : ZipSep2 z TI TO i1 i2 fp1 fp2) (D1 : Draws prog w A.in1 i1 fp1 n1 P1 St1) (D2 : Draws prog w A.in1 i2 fp2 n1 P2 St2)
    (hz : IsZipHeld s.heap z TI TO T f) (hT : s.heap.get? T = some oT) (hTI : IsTupOf2 s.heap TI (.ref i1) (.ref i2)) (st1 : St1 n1 s.heap)
    (hQ : ∀ h', (∀ c o, c ≠ z → c ≠ i1 → c ≠ i2 → s.heap.get? c = some o → h'.get? c = some o) → Q none { s with heap := h' }) : wpAny (model prog w) A (pyNext (.ref z)) Q E s := by
  have hTy : s.TypeIs (.ref z) "zip" := ⟨_, hz, rfl⟩
  unfold pyNext
  refine wpAny_bind (wpAny_attempt (wpAny_callSpecial?_slot (name := Str.ofString "__next__") hTy F.slot_zip_next
    (wpAny_call_entry F.slot_zip_next hTy F.entry_zip_next (zipD2_end_held S D1 D2 hz hT hTI st1 fun h' e hk he => ?_) (F.args_zip_next_1 _))))
  obtain ⟨o, ho, hc⟩ := he
  refine wpAny_bind (wpAny_isInstance (T := "StopIteration") (b := true) ⟨o, ho, hc⟩ isSubtype_stop ?_)
  exact wpAny_pure (hQ _ hk)
theorem pairArg_zipD2 (S : ZipSep2 z TI TO i1 i2 fp1 fp2) (D1 : ∀ A : Around, A.handled = none → Draws prog w A i1 fp1 n1 P1 St1) (D2 : ∀ A : Around, A.handled = none → Draws prog w A i2 fp2 n1 P2 St2) :
    PairArg prog w "zip" z (z :: TI :: TO :: (fp1 ++ fp2)) [z, TO, i1, i2] n1 (fun i k v => P1 i k ∧ P2 i v)
      (fun h => IsZip h z TI TO .none ∧ IsTupOf2 h TI (.ref i1) (.ref i2) ∧ (∃ a b, IsTupOf2 h TO a b) ∧ St1 0 h ∧ St2 0 h ∧ ∀ b ∈ fp1 ++ fp2, ∃ o, h.get? b = some o) where
  type := fun s ok => ⟨_, ok.1, rfl⟩
  notDict := by decide
  keep := fun h h' ok hk => by
    obtain ⟨hz, hTI, ⟨a, b, hTO⟩, h1, h2, ex⟩ := ok
    exact ⟨hk _ _ hz, hk _ _ hTI, ⟨a, b, hk _ _ hTO⟩, (D1 callerA rfl).frame _ _ _ h1 fun b _ o e => hk b o e, (D2 callerA rfl).frame _ _ _ h2 fun b _ o e => hk b o e, fun b hb => let ⟨o, e⟩ := ex b hb; ⟨o, hk _ _ e⟩⟩
  there := fun h ok b hb => by
    obtain ⟨hz, hTI, ⟨a, c, hTO⟩, _, _, ex⟩ := ok
    rcases List.mem_cons.mp hb with rfl | hb
    · exact ⟨_, hz⟩
    rcases List.mem_cons.mp hb with rfl | hb
    · exact ⟨_, hTI⟩
    rcases List.mem_cons.mp hb with rfl | hb
    · exact ⟨_, hTO⟩
    exact ex b hb
  sub := fun b hb => by
    have e : b = z ∨ b = TO ∨ b = i1 ∨ b = i2 := by simpa using hb
    rcases e with rfl | rfl | rfl | rfl
    · simp
    · simp
    · have := S.mem1; simp [this]
    · have := S.mem2; simp [this]
  noKeys := fun A s Q E hA ok h => getAttrOr_miss_zip ok.1 rfl rfl rfl zip_no_keys (by decide +kernel) hA h
  iter := fun A s d Q E hA ok hd hdf h => by
    obtain ⟨hz, hTI, ⟨a, b, hTO⟩, h1, h2, _⟩ := ok
    have dz : d ≠ z := fun e => hdf (by simp [e])
    have dTI : d ≠ TI := fun e => hdf (by simp [e])
    have dTO : d ≠ TO := fun e => hdf (by simp [e])
    have df1 : ∀ b ∈ fp1, b ≠ d := fun b hb e => hdf (by subst e; simp [hb])
    have df2 : ∀ b ∈ fp2, b ≠ d := fun b hb e => hdf (by subst e; simp [hb])
    have dI1 := (df1 _ S.mem1).symm
    have dI2 := (df2 _ S.mem2).symm
    refine wpAny_pyIter_zip hz (h z [z, TO, i1, i2] (fun i h => IsTupOf2 h TI (.ref i1) (.ref i2) ∧ St1 i h ∧ St2 i h ∧
      ((IsZip h z TI TO .none ∧ ∃ a b, IsTupOf2 h TO a b) ∨ ∃ T f oT, IsZipHeld h z TI TO T f ∧ h.get? T = some oT ∧ T ≠ z ∧ T ≠ i1 ∧ T ≠ i2 ∧ T ≠ d)) s.heap s.toks ?_
      ⟨hTI, h1, h2, .inl ⟨hz, a, b, hTO⟩⟩ (fun _ _ e => e) fun b hb => .inl hb)
    exact {
      off := fun hm => by
        have e : d = z ∨ d = TO ∨ d = i1 ∨ d = i2 := by simpa using hm
        rcases e with e | e | e | e
        · exact dz e
        · exact dTO e
        · exact dI1 e
        · exact dI2 e
      frame := fun i h₁ h₂ st hk => by
        obtain ⟨hTI, h1, h2, hz⟩ := st
        refine ⟨hk _ _ (Ne.symm dTI) hTI, (D1 A hA).frame _ _ _ h1 fun b hb o e => hk b o (df1 b hb) e, (D2 A hA).frame _ _ _ h2 fun b hb o e => hk b o (df2 b hb) e, ?_⟩
        rcases hz with ⟨hz, a, b, hTO⟩ | ⟨T, f, oT, hz, hT, r1, r2, r3, r4⟩
        · exact .inl ⟨hk _ _ (Ne.symm dz) hz, a, b, hk _ _ (Ne.symm dTO) hTO⟩
        · exact .inr ⟨T, f, oT, hk _ _ (Ne.symm dz) hz, hk _ _ r4 hT, r1, r2, r3, r4⟩
      item := fun i s₁ Q₁ E₁ hi st hds hQ => by
        obtain ⟨hTI, h1, h2, hz⟩ := st
        have lt : ∀ {c o}, s₁.heap.get? c = some o → s₁.heap.objs.size ≠ c := fun e => Nat.ne_of_gt (Heap.lt_size e)
        have n1' : s₁.heap.objs.size ≠ i1 := let ⟨_, e⟩ := (D1 A hA).live _ _ h1; lt e
        have n2' : s₁.heap.objs.size ≠ i2 := let ⟨_, e⟩ := (D2 A hA).live _ _ h2; lt e
        rcases hz with ⟨hz, a, b, hTO⟩ | ⟨T, f, oT, hz, hT, r1, r2, r3, r4⟩
        · refine wpAny_pyNext_zipD2_item S (D1 A.in1 hA) (D2 A.in1 hA) hz hTI hTO h1 h2 hi hi fun x1 x2 h' tk p1 p2 a1 a2 a3 a4 a5 a6 hk => ?_
          exact hQ s₁.heap.objs.size _ _ h' tk ⟨p1, p2⟩ (.inl ⟨_, a5, rfl, _, rfl⟩)
            ⟨hk _ _ S.TIz S.TITO S.TIi1 S.TIi2 hTI, a3, a4, .inr ⟨s₁.heap.objs.size, false, _, a1, a5, lt hz, n1', n2', Nat.ne_of_gt hds⟩⟩
            fun c o hc e => hk c o (fun x => hc (by simp [x])) (fun x => hc (by simp [x])) (fun x => hc (by simp [x])) (fun x => hc (by simp [x])) e
        · refine pyNext_zipD2_item_held S (D1 A.in1 hA) (D2 A.in1 hA) hz hT hTI h1 h2 hi hi fun x1 x2 h' tk p1 p2 a1 a3 a4 a5 a6 hk => ?_
          exact hQ s₁.heap.objs.size _ _ h' tk ⟨p1, p2⟩ (.inl ⟨_, a5, rfl, _, rfl⟩)
            ⟨hk _ _ S.TIz S.TIi1 S.TIi2 hTI, a3, a4, .inr ⟨T, true, oT, a1, hk _ _ r1 r2 r3 hT, r1, r2, r3, r4⟩⟩
            fun c o hc e => hk c o (fun x => hc (by simp [x])) (fun x => hc (by simp [x])) (fun x => hc (by simp [x])) e
      done := fun s₁ Q₁ E₁ st hQ => by
        obtain ⟨hTI, h1, h2, hz⟩ := st
        rcases hz with ⟨hz, a, b, hTO⟩ | ⟨T, f, oT, hz, hT, r1, r2, r3, r4⟩
        · exact wpAny_pyNext_zipD2_end S (D1 A.in1 hA) (D2 A.in1 hA) hz hTI hTO h1 h2 (Nat.le_refl _) (Nat.le_refl _) (.inl rfl) fun h' tk hk => hQ h' tk
            fun c o hc e => hk c o (fun x => hc (by simp [x])) (fun x => hc (by simp [x])) (fun x => hc (by simp [x])) (fun x => hc (by simp [x])) e
        · exact pyNext_zipD2_end_held S (D1 A.in1 hA) (D2 A.in1 hA) hz hT hTI h1 fun h' hk => hQ h' s₁.toks
            fun c o hc e => hk c o (fun x => hc (by simp [x])) (fun x => hc (by simp [x])) (fun x => hc (by simp [x])) e }
end
theorem zip_map_get {α β γ : Type} (f : α → β → γ) : ∀ (l : List α) (m : List β) (i : Nat), ((l.zip m).map fun p => f p.1 p.2)[i]? = (l[i]?.bind fun a => m[i]?.map fun b => f a b)
  | [], _, i => by simp
  | a :: l, [], i => by cases h : (a :: l)[i]? <;> simp
  | a :: l, b :: m, 0 => rfl
  | a :: l, b :: m, i + 1 => by simpa using zip_map_get f l m i
theorem paired_zip {l : List Nat} : ∀ {ys : List V} {its : List Value}, Vals ys its → KV ((l.zip ys).map fun p => (tk [p.1], p.2)) ((l.zip its).map fun p => (tk [p.1], p.2)) := by
  induction l with
  | nil => intro ys its _; exact .nil
  | cons c l ih =>
    intro ys its r
    cases r with
    | nil => exact .nil
    | cons h t => exact .cons ⟨rfl, h⟩ (ih t)
def tDictZip (K : PySem.W.Frag) (ta : TA) : TE := fun σ H Q => ta σ H fun vs H1 => ∃ (l : List Nat) (b : Addr) (ys : List V), vs = [.str (S l), .ref b] ∧ SqT K H1 b ys ∧ ys.length = l.length ∧ l.length ≤ 1000 ∧
  ∀ p, H1 p = none → Q (.ref p) (upd H1 p (.dK (mergeK [] ((l.zip ys).map fun p => (tk [p.1], p.2)))))
theorem pe_dictZip {X : Cx} {e e2 : Expr} {ta : TA} {p p2 pos pos2 : Pos} (hc : X.calm = true) (hgd : Gl X "dict") (hmd : X.mg "dict" = none) (hg : Gl X "zip") (hm : X.mg "zip" = none) (ha : PA X [e, e2] ta)
    (hs : starEach [e, e2] X.env = (false, eval e X.env) :: starEach [e2] X.env := by rfl) (hpl : (backTo pos2 (starEach [e2] X.env)).any (·.1) = false := by rfl)
    (hs' : starEach [.Call (.Name "zip" p2) [e, e2] [] pos2] X.env = (false, eval (.Call (.Name "zip" p2) [e, e2] [] pos2) X.env) :: starEach [] X.env := by rfl) (hpl' : (backTo pos (starEach [] X.env)).any (·.1) = false := by rfl) :
    PE X (.Call (.Name "dict" p) [.Call (.Name "zip" p2) [e, e2] [] pos2] [] pos) (tDictZip X.K ta) := by
  refine ⟨fun pins s σ H Q I h => ?_⟩
  refine Call_ (ld_blt I hgd hmd PyProof.Rows.boot_dict (PyProof.Rows.callWith_type1 (Q := EP X pins σ Q) ?_ hs' hpl'))
  rw [hs']
  refine PySem.Calls.spliced_cons ?_
  refine Call_ (ld_blt I hg hm PyProof.Rows.boot_zip (PyProof.Rows.callWith_type1 (thn (ha.run pos2 pins s σ H _ I h) fun us s1 ⟨vs, H1, I1, r1, q1⟩ => ?_) hs hpl))
  obtain ⟨l, b, ys, ex, hb, hl, hz, q⟩ := q1
  subst ex
  obtain ⟨u, u', rfl, r, r'⟩ := vals2 r1
  obtain ⟨t, rfl⟩ := (show ∃ t, u = Value.str (S l) t from r)
  obtain rfl : u' = Value.ref b := r'
  obtain ⟨its, rv, ht, _⟩ := I1.tuple hb
  have hlen : its.toArray.size = (S l).cps.size := by rw [List.size_toArray, ← rv.length, hl]; simp [S]
  have hbl : b < s1.heap.objs.size := ht.lt
  refine zip_begins2 (begins_text (S l) t) (begins_tuple b its.toArray) trivial ht fun h' hz' hTI hTO h1 h2 hsz hk => ?_
  refine PySem.Calls.spliced_nil ?_
  have I2 : Inv X pins σ H1 { s1 with heap := h' } := I1.kept (t' := s1.toks) hk
  have f2 : ∀ a ∈ [b], a < s1.heap.objs.size := fun a h => by rw [List.mem_singleton.mp h]; exact hbl
  have S2 := PySem.zip_sep2 (N := s1.heap.objs.size) (fp1 := []) (fp2 := [b]) (fun _ h => nomatch h) f2
  have P := pairArg_zipD2 (prog := X.prog) (w := X.w) S2 (fun A hh => Draws.text hh s1.heap.objs.size (S l) t)
    (fun A hh => hlen ▸ Draws.tuple hh (s1.heap.objs.size + 1) b (Nat.ne_of_lt (Nat.lt_succ_of_lt hbl)) its.toArray)
  have ht2 : h'.IsTuple b its.toArray := (show s1.heap.IsTuple b its.toArray from ht).at fun o e => hk _ _ e
  have hn : H1 h'.objs.size = none := I2.hok.fresh (Nat.le_refl _)
  have hl2 : its.length = l.length := by rw [← rv.length, hl]
  refine PySem.call_dict_pairs (knd := mixKind X.prog X.w) (kvs := (l.zip its).map fun p => (tk [p.1], p.2)) P (I1.ok.hd hc) ?_ ⟨?_, ?_⟩ ?_ fun h3 tk3 hd3 hk3 => ?_
  · refine ⟨hz', hTI, ⟨_, _, hTO⟩, ⟨_, h1, rfl, rfl⟩, ⟨⟨_, h2, rfl, rfl⟩, ht2⟩, fun a ha => ?_⟩
    have e : a = s1.heap.objs.size ∨ a = s1.heap.objs.size + 1 ∨ a = b := by simpa using ha
    rcases e with rfl | rfl | rfl
    · exact ⟨_, h1⟩
    · exact ⟨_, h2⟩
    · obtain ⟨o, e, _⟩ := ht2; exact ⟨o, e⟩
  · rw [List.length_map, List.length_zip, hl2, Nat.min_self]; simp [S]
  · rintro i key v ⟨⟨c, u, hc', rfl⟩, hv⟩
    have hc2 : l[i]? = some c := by simpa [S] using hc'
    have hv2 : its[i]? = some v := by simpa using hv
    refine ⟨tk [c], ?_, kV_is (P := X.prog) (w := X.w) (k := tk [c]) ⟨u, rfl⟩⟩
    rw [zip_map_get (fun a b => (tk [a], b)), hc2, hv2]; rfl
  · simp [S]; exact Nat.le_trans hz (by decide)
  · have kvr : KV ((l.zip ys).map fun p => (tk [p.1], p.2)) ((l.zip its).map fun p => (tk [p.1], p.2)) := paired_zip rv
    have hm' : (h'.objs.size == sysModules) = false := beq_eq_false_iff_ne.mpr (Nat.ne_of_gt I2.big)
    have hlen2 : (mergeK [] ((l.zip ys).map fun p => (tk [p.1], p.2))).length ≤ sizeLine := by
      refine Nat.le_trans (length_mergeK _ []) ?_
      rw [List.length_nil, Nat.zero_add, List.length_map, List.length_zip, hl, Nat.min_self]
      exact Nat.le_trans hz (by decide)
    have keep3 : ∀ c o, s1.heap.get? c = some o → h3.get? c = some o := fun c o e => hk3 c o (fun hm => by
      have hlt : c < s1.heap.objs.size := Heap.lt_size e
      have e' : c = s1.heap.objs.size + 4 ∨ c = s1.heap.objs.size + 3 ∨ c = s1.heap.objs.size ∨ c = s1.heap.objs.size + 1 := by simpa using hm
      have hle : s1.heap.objs.size ≤ c := by
        rcases e' with z | z | z | z
        · rw [z]; exact Nat.le_add_right _ _
        · rw [z]; exact Nat.le_add_right _ _
        · rw [z]; exact Nat.le_refl _
        · rw [z]; exact Nat.le_add_right _ _
      exact Nat.lt_irrefl _ (Nat.lt_of_lt_of_le hlt hle)) (hk _ _ e)
    have hsz5 : s1.heap.objs.size ≤ h'.objs.size := by rw [hsz]; omega
    exact ⟨.ref h'.objs.size, upd H1 h'.objs.size (.dK (mergeK [] ((l.zip ys).map fun p => (tk [p.1], p.2)))), I1.laid (t' := tk3) keep3 hsz5 (show ObjOk X.prog X.w _ _ _ (.dK _) from ⟨hlen2, hm', merged [] _, KV.merge kvr .nil, hd3⟩), rfl, q _ hn⟩
end LX
set_option maxHeartbeats 2000000
namespace LX
open PySem PySem.Spec PyProof.Rows L2 C8 SX
theorem meets_enum1 {v : Value} {o : Obj} {H : Heap → Prop} (B : Begins v o H) :
    Meets (Builtin.«enumerate.__new__» ⟨[.type "enumerate", v], []⟩) (fun _ R s => H s.heap ∧
      R (.ok (.ret (.ref (s.heap.push o).objs.size))) { s with heap := (s.heap.push o).push { cls := .type "enumerate", data := .fields #[.none, .bool false, .ref s.heap.objs.size, rawInt 0, .none, .none] } }) :=
  .of_wp fun prog w A R s h => by
    obtain ⟨hp, g, d, tk, os⟩ := s; obtain ⟨h1, h⟩ := h
    have hsub := sub_enumerate
    have q1 : ∀ {A' : Around} {E : Value → Shared → Prop} {Q : Value → Shared → Prop}, Q (.ref hp.objs.size) ⟨hp.push o, g, d, tk, os⟩ → wpAny (model prog w) A' (pyIter v) Q E ⟨hp, g, d, tk, os⟩ :=
      fun q => B.iter prog w _ _ ⟨hp, g, d, tk, os⟩ _ h1 q
    wp_walk using q1
    refine wpAny_stack_any fun st => wpAny_pure ?_
    split
    · rename_i c _ _ _ _ _
      cases (c == Value.type "enumerate")
      · wp_walk using q1
        exact ⟨_, rfl, h⟩
      · wp_walk using q1
        exact ⟨_, rfl, h⟩
    · wp_walk using q1
      exact ⟨_, rfl, h⟩
theorem enum1_begins {prog : Program} {w : World} {A : Around} {E : Value → Shared → Prop} {s : Shared} {v : Value} {o : Obj} {H : Heap → Prop} {Q : Value → Shared → Prop} (B : Begins v o H) (h1 : H s.heap)
    (h : ∀ h', IsEnum h' (s.heap.objs.size + 1) s.heap.objs.size 0 .none → h'.get? s.heap.objs.size = some o → h'.objs.size = s.heap.objs.size + 2 →
      (∀ b o, s.heap.get? b = some o → h'.get? b = some o) → Q (.ref (s.heap.objs.size + 1)) { s with heap := h' }) :
    wpAny (model prog w) A (call (.type "enumerate") [v]) Q E s := by
  refine callType_new F.called_enumerate (by decide) (F.typeCall_enumerate_1 _) (F.newCall_enumerate_1 _) (fun obj => F.args_object_init_2 obj _) F.entry_enumerate_new
    (meets_enum1 B) ⟨h1, ?_⟩
  have hz : (s.heap.push o).objs.size = s.heap.objs.size + 1 := Heap.size_push ..
  show _ ∧ _
  rw [hz]
  have he : IsEnum ((s.heap.push o).push { cls := .type "enumerate", data := .fields #[.none, .bool false, .ref s.heap.objs.size, rawInt 0, .none, .none] }) (s.heap.objs.size + 1) s.heap.objs.size 0 .none := by
    have := Heap.get?_push_size (s.heap.push o) (o := { cls := .type "enumerate", data := .fields #[.none, .bool false, .ref s.heap.objs.size, rawInt 0, .none, .none] }) rfl
    rw [hz] at this; exact this
  refine ⟨⟨_, he, rfl⟩, h _ he (Heap.get?_push_of_some _ (Heap.get?_push_size _ B.free)) (by rw [Heap.size_push, hz]) fun b o x => Heap.get?_push_of_some _ (Heap.get?_push_of_some _ x)⟩
def IteX (K : PySem.W.Frag) (S : Sr) : It :=
  ⟨fun i H => S.has K i H, fun i H v H' => ∃ T x, v = .ref T ∧ H T = none ∧ H' = upd H T (.tup [.int (i : Nat), x]) ∧ S.val K i H x, fun i H => S.upto K i H ∧ S.ends K i H⟩
theorem turn_enumX {P : Program} {w : World} {K : PySem.W.Frag} {elts : List Expr} {kk : Nat} {tpos : Pos} {e it : Addr} (S : Sr) (n1 : ∀ a ∈ S.fp, a ≠ it) (ne : e ≠ it) (nf : e ∉ S.fp) :
    Turn P w K (.Tuple elts kk tpos) (IteX K S) [e, it] e (fun i h => (∃ old, IsEnum h e it ((i : Nat) : Int) old) ∧ S.tn it i h) where
  mem := by simp
  obj := fun i h st b hb => by
    obtain ⟨⟨old, he⟩, h1⟩ := st
    have e' : b = e ∨ b = it := by simpa using hb
    rcases e' with z | z
    · rw [z]; exact ⟨_, he, fun v q => nomatch q⟩
    · rw [z]; exact Sr.tn_obj h1
  keep := fun i h h' st k => let ⟨⟨old, he⟩, h1⟩ := st; ⟨⟨old, k e (by simp) _ he⟩, Sr.tn_keep h1 fun o q => k it (by simp) o q⟩
  item := by
    intro X hP hw hK hc i pins s σ H E I hf st hg
    subst hP hw hK
    obtain ⟨⟨old, he⟩, h1⟩ := st
    obtain ⟨m1, ⟨P1, St1, D1, st1, v1, t1⟩, _, lt1, _⟩ := S.draws I n1 h1 (Sr.has_upto hg)
    have hel : e < s.heap.objs.size := Heap.lt_size he
    have hil : it < s.heap.objs.size := by obtain ⟨_, q, _⟩ := Sr.tn_obj h1; exact Heap.lt_size q
    refine wpAny_pyNext_enum_itemD (D1 _ (I.ok.hd hc)) he st1 (lt1 hg) ne (by simp [ne, nf]) fun u h' tk p1 ho st1' hT hsz hk => ?_
    obtain ⟨x, hx, rx⟩ := v1 u p1
    refine ⟨_, rfl, wpAny_letOwnedTupleGo_enum (s := { s with heap := h', toks := tk + 1 }) ho fun h'' he' sb => ?_⟩
    have hT2 : h''.get? s.heap.objs.size = some { cls := .type "tuple", data := .seq #[.int i tk, u] } := (sb.2 _ (Nat.ne_of_gt hel)).trans hT
    have new : ObjOk X.prog X.w (upd H s.heap.objs.size (.tup [.int (i : Nat), x])) h'' s.heap.objs.size (.tup [.int (i : Nat), x]) :=
      ⟨by show 2 ≤ sizeLine; decide, [.int i tk, u], .cons ⟨_, rfl⟩ (.cons rx .nil), ⟨_, hT2, rfl, _, rfl⟩⟩
    have I1 : Inv X pins σ (upd H s.heap.objs.size (.tup [.int (i : Nat), x])) { s with heap := h'', toks := tk + 1 } :=
      I.turnedNew (ch := [e, it]) (fun b ob hb q => (sb.2 b (fun z => hb (by simp [z]))).trans (hk b ob (fun z => hb (by simp [z])) (fun z => hb (by simp [z])) q)) hf (Nat.le_refl _) new
    refine ⟨.ref s.heap.objs.size, _, I1, rfl, ⟨_, x, rfl, I.hok.fresh (Nat.le_refl _), rfl, hx⟩, ⟨⟨u, ?_⟩, Sr.tn_keep (t1 _ _ st1') fun o q => (sb.2 it (Ne.symm ne)).trans q⟩, fun b hb => ?_⟩
    · have e1 : ((i + 1 : Nat) : Int) = (i : Int) + 1 := by omega
      rw [e1]; exact he'
    · have hb' : b < s.heap.objs.size := by
        have e' : b = e ∨ b = it := by simpa using hb
        rcases e' with z | z
        · rw [z]; exact hel
        · rw [z]; exact hil
      rw [upd_ne (Nat.ne_of_lt hb')]
      exact (hf b hb).1
  done := by
    intro X hP hw hK hc i pins s σ H E I hf st hg
    subst hP hw hK
    obtain ⟨⟨old, he⟩, h1⟩ := st
    obtain ⟨g1, ge⟩ := hg
    obtain ⟨m1, ⟨P1, St1, D1, st1, v1, t1⟩, _, _, eq1⟩ := S.draws I n1 h1 g1
    obtain ⟨f0, f1, f2, f3, f4, f5⟩ := hf it (by simp)
    have e1 := eq1 ge
    subst e1
    exact wpAny_pyNext_enum_endD (D1 _ (I.ok.hd hc)) he st1 fun h' eb => ⟨rfl, I.turned (t' := s.toks) (fun b o hb q => eb b o hb q) f0 f1 f3 f4 f5⟩
  self := fun A i s Q E st h => let ⟨⟨_, he⟩, _⟩ := st; wpAny_pyIter_enum he h
def iEnumX (K : PySem.W.Frag) (ta : TA) : TI := fun σ H R => ta σ H fun vs H1 => ∃ (x : V) (S : Sr), vs = [x] ∧ S.of x ∧ S.there K H1 ∧ R (IteX K S) H1
theorem pi_enumX {X : Cx} {e : Expr} {ta : TA} {p pos tpos : Pos} {elts : List Expr} {kk : Nat} (hg : Gl X "enumerate") (hm : X.mg "enumerate" = none) (ha : PA X [e] ta) (hs : starEach [e] X.env = [(false, eval e X.env)] := by rfl) :
    PI X (.Tuple elts kk tpos) (.Call (.Name "enumerate" p) [e] [] pos) (iEnumX X.K ta) := by
  refine ⟨fun pins s σ H R I h => ?_⟩
  refine Call_ (ld_blt I hg hm PyProof.Rows.boot_enumerate (PyProof.Rows.callWith_type1 (thn (ha.run pos pins s σ H _ I h) fun us s1 ⟨vs, H1, I1, r1, q1⟩ => ?_) hs rfl))
  obtain ⟨x, S, ex, e1, th1, q⟩ := q1
  subst ex
  obtain ⟨u, rfl, r⟩ := vals1 r1
  obtain ⟨o1, HH1, B1, b1, f1, t1⟩ := Sr.begins I1 r e1 th1
  refine enum1_begins B1 b1 fun h' he hit hsz hk => wpAny_pyIter_enum he ?_
  have I2 : Inv X pins σ H1 { s1 with heap := h' } := I1.kept (t' := s1.toks) hk
  refine ⟨s1.heap.objs.size + 1, [s1.heap.objs.size + 1, s1.heap.objs.size], _, _, H1, rfl, I2, turn_enumX S (fun a ha => Nat.ne_of_lt (f1 a ha)) (Nat.succ_ne_self _) (fun hm => Nat.not_lt.mpr (Nat.le_add_right _ _) (f1 _ hm)), ⟨⟨.none, he⟩, t1 _ _ hit⟩, fun b hb => ?_, q⟩
  have e' : b = s1.heap.objs.size + 1 ∨ b = s1.heap.objs.size := by simpa using hb
  have hle : s1.heap.objs.size ≤ b := by
    rcases e' with z | z
    · rw [z]; exact Nat.le_add_right _ _
    · rw [z]; exact Nat.le_refl _
  exact I1.fpOk hle (I1.hok.fresh hle)
theorem walk_enumX {K : PySem.W.Frag} {S : Sr} {xs : List V} : Walk (IteX K S) xs.length (fun H => S.is K H xs) (YPair (fun i => some (.int (i : Nat))) (fun i => xs[i]?)) := by
  refine ⟨fun i H hi q => Sr.is_has hi q, fun H q => ⟨Sr.is_upto (Nat.le_refl _) q, Sr.is_ends rfl q⟩, fun i H v H' _ q y => ?_⟩
  obtain ⟨T, x, h1, h2, h3, h4⟩ := y
  exact ⟨T, .int (i : Nat), x, h1, h2, h3, rfl, Sr.is_val q h4⟩
theorem dc_keep {Rel : Hp → Hp → Prop} {J : It} {n : Nat} {G : Hp → Prop} {Y : Nat → Hp → V → Hp → Prop} {H1 : Hp} (kp : Keep Rel H1) (w : Walk J n G Y) {g : TG} {ka te : TE} {vs : List Nat} {σ : L2.St} {D : Addr} {Qd : Hp → Prop} (hD : H1 D = none) (hn : n < sizeLine)
    (key : Nat → Key) (Good : Nat → V → Hp → Prop) (hG : ∀ H, Rel H1 H → G H) (inj : ∀ i j, i < n → j < i → key j ≠ key i)
    (st : ∀ i y H H', Rel H1 H → Rel H H' → Good i y H → Good i y H') (pt : ∀ i y H acc o, Rel H1 H → H D = some (.dK acc) → Good i y H → Good i y (upd H D o))
    (hs : ∀ i x H H' acc (R : V → V → Hp → Prop), i < n → Rel H1 H → H D = some (.dK acc) → Y i H x H' → (∀ y H4, Rel H H4 → Good i y H4 → R (kV (key i)) y H4) → g x (wipe σ vs) H' fun σ2 H2 => wipe σ2 vs = wipe σ vs ∧ ka σ2 H2 fun k H3 => te σ2 H3 fun z H4 => R k z H4)
    (hd : ∀ ys H, ys.length = n → (∀ (j : Nat) y, ys[j]? = some y → Good j y H) → Rel H1 H → H D = some (.dK ((List.range n).zip ys |>.map fun p => (key p.1, p.2))) → Qd H) :
    ∃ W : Nat → Nat → Hp → Prop, (∃ m, W 0 m (upd H1 D (.dK []))) ∧ ∀ i m H, W i m H →
      (J.stop i H ∧ Qd H) ∨ (J.go i H ∧ ∃ Nx : Hp → Prop, (∀ H', Nx H' → ∃ m', m' < m ∧ W (i + 1) m' H') ∧ ∀ x H', J.yld i H x H' → g x (wipe σ vs) H' fun σ2 H2 => wipe σ2 vs = wipe σ vs ∧ tYes σ2 H2 fun b H3 =>
        if b = true then ka σ2 H3 fun y H4 => te σ2 H4 fun z H5 => ∃ kvs k, y = kV k ∧ H5 D = some (.dK kvs) ∧ kvs.length < sizeLine ∧ Nx (upd H5 D (.dK (putK kvs k z))) else Nx H3) := by
  refine ⟨fun i m H => m = n - i ∧ i ≤ n ∧ ∃ ys : List V, ys.length = i ∧ H D = some (.dK ((List.range i).zip ys |>.map fun p => (key p.1, p.2))) ∧ Rel H1 H ∧ ∀ (j : Nat) y, ys[j]? = some y → Good j y H, ⟨n, by omega, Nat.zero_le _, [], rfl, upd_same, kp.put _ _ _ kp.refl hD, fun j y e => by simp at e⟩, ?_⟩
  rintro i m H ⟨rfl, hi, ys, hl, hDa, r, hg⟩
  rcases Nat.lt_or_ge i n with h | h
  · refine .inr ⟨w.goes i H h (hG H r), fun H' => ∃ ys : List V, ys.length = i + 1 ∧ H' D = some (.dK ((List.range (i + 1)).zip ys |>.map fun p => (key p.1, p.2))) ∧ Rel H1 H' ∧ ∀ (j : Nat) y, ys[j]? = some y → Good j y H', fun H' h' => ⟨n - (i + 1), by omega, rfl, h, h'⟩, fun x H' hy => ?_⟩
    have key2 : ∀ (z : V) H5, Rel H H5 → Good i z H5 → ∃ kvs k, kV (key i) = kV k ∧ H5 D = some (.dK kvs) ∧ kvs.length < sizeLine ∧ ∃ ys : List V, ys.length = i + 1 ∧ (upd H5 D (.dK (putK kvs k z))) D = some (.dK ((List.range (i + 1)).zip ys |>.map fun p => (key p.1, p.2))) ∧ Rel H1 (upd H5 D (.dK (putK kvs k z))) ∧ ∀ (j : Nat) y, ys[j]? = some y → Good j y (upd H5 D (.dK (putK kvs k z))) := fun z H5 r5 gz => by
      have hD5 := kp.get _ _ _ _ r5 hD r hDa
      have r6 := kp.trans _ _ r r5
      refine ⟨_, key i, rfl, hD5, by rw [List.length_map, List.length_zip, List.length_range, hl]; omega, ys ++ [z], by simp [hl], ?_, kp.put _ _ _ r6 hD, fun j y e => ?_⟩
      · rw [upd_same]
        congr 2
        rw [putK_new _ (valV_none fun p hp => ?_), List.range_succ, List.zip_append (by rw [List.length_range, hl])]
        · simp
        · obtain ⟨q, hq, rfl⟩ := List.mem_map.mp hp
          have : q.1 < i := List.mem_range.mp (List.of_mem_zip hq).1
          exact inj i q.1 h this
      · rcases Nat.lt_or_ge j ys.length with h | h
        · rw [List.getElem?_append_left h] at e
          exact pt _ _ _ _ _ r6 hD5 (st _ _ _ _ r r5 (hg j y e))
        · rw [List.getElem?_append_right h] at e
          have hj : j - ys.length = 0 := by
            rcases Nat.lt_or_ge (j - ys.length) 1 with z | z
            · omega
            · rw [List.getElem?_eq_none (by simpa using z)] at e; cases e
          rw [hj] at e
          have : z = y := Option.some.inj e
          subst this
          have : j = i := by omega
          subst this
          exact pt _ _ _ _ _ r6 hD5 gz
    exact hs i x H H' _ (fun k z H5 => ∃ kvs k', k = kV k' ∧ H5 D = some (.dK kvs) ∧ kvs.length < sizeLine ∧ ∃ ys : List V, ys.length = i + 1 ∧ (upd H5 D (.dK (putK kvs k' z))) D = some (.dK ((List.range (i + 1)).zip ys |>.map fun p => (key p.1, p.2))) ∧ Rel H1 (upd H5 D (.dK (putK kvs k' z))) ∧ ∀ (j : Nat) y, ys[j]? = some y → Good j y (upd H5 D (.dK (putK kvs k' z)))) h r hDa (w.yields i H x H' h (hG H r) hy) fun y H4 r4 gy => key2 y H4 r4 gy
  · have : i = n := by omega
    subst this
    exact .inl ⟨w.stops H (hG H r), hd ys H hl hg r hDa⟩
end LX
set_option maxHeartbeats 4000000
namespace LX
open PySem PySem.Spec PyProof.Rows L2 C8 SX
theorem inK {X : Cx} (K : PySem.W.Frag) (h : X.K = K := by rfl) : OpR X (compareOp .In) (rIn K false) := by subst h; exact op_in_seq
theorem notInK {X : Cx} (K : PySem.W.Frag) (h : X.K = K := by rfl) : OpR X (compareOp .NotIn) (rIn K true) := by subst h; exact op_notIn_seq
section
variable {prog : Program} {w : World} {A : Around} {R : Result → Shared → Prop} {I S : Addr} {fp wr : List Addr} {G : Array GenState → Array GenState → Prop} {n : Nat} {P : Nat → Value → Prop} {St : Nat → Shared → Prop}
abbrev setO (led : Bool) : Obj := { cls := .type "set", dict := none, data := .set #[] 0 (.fresh 0 0 led) }
abbrev Elem (prog : Program) (w : World) (xs : List Str) (i : Nat) (S : Addr) (h : Heap) : Prop := h.SetOf (PySem.strKind prog w) S (fun k => decide (k ∈ xs.take i)) i
theorem Elem.stay {xs : List Str} {i : Nat} {h h' : Heap} (e : Elem prog w xs i S h) (k : ∀ o, h.get? S = some o → h'.get? S = some o) : Elem prog w xs i S h' :=
  let ⟨o, es, ep, tb, ho, rest⟩ := e; ⟨o, es, ep, tb, k o ho, rest⟩
theorem set_loopT (W : WalksS prog w A.in1 I fp wr G n P St) (off : S ∉ fp) {xs : List Str} (hl : xs.length = n) (nd : xs.Nodup) (room : n < scanBound) (val : ∀ i v, P i v → ∃ x t, xs[i]? = some x ∧ v = .str x t) :
    ∀ (k i : Nat) (s : Shared), i + k = n → St i s → Elem prog w xs i S s.heap → (∀ s', Moved (S :: wr) G s s' → Elem prog w xs n S s'.heap → R (.ok (.ret .none)) s') →
      codeAny (model prog w) A (.builtin "set.update.loop" ⟨[.ref S, .ref I], []⟩) R s
  | 0, i, s, hk, hst, he, hR => by
    obtain rfl : i = n := hk
    refine codeAny_builtin PyProof.Rows.F.entry_set_update_loop ?_
    rw [Around.under_plainId PyProof.Rows.F.plain_set_update_loop _]
    refine wpAny_bind (W.done s _ _ hst fun s' hm => wpAny_pure (hR s' (hm.mono fun b hb => List.mem_cons_of_mem _ hb) (he.stay fun o e => hm.heap S o (fun h => off (W.sub _ h)) e)))
  | k + 1, i, s, hk, hst, he, hR => by
    refine codeAny_builtin PyProof.Rows.F.entry_set_update_loop ?_
    rw [Around.under_plainId PyProof.Rows.F.plain_set_update_loop _]
    refine wpAny_bind (W.item i s _ _ (by omega) hst fun v s' hP hst' hm => ?_)
    obtain ⟨x, t, hx, rfl⟩ := val i v hP
    have he' : Elem prog w xs i S s'.heap := he.stay fun o e => hm.heap S o (fun h => off (W.sub _ h)) e
    show wpAny _ A.in1 (holding [Value.str x t] (setAdd S (.str x t)) >>= _) _ _ s'
    refine wpAny_bind (wpAny_holding ?_)
    unfold setAdd
    refine wpAny_holding (wpAny_bind ((PySem.strKind prog w).pyHash (k := x) (strKind_is _ _ _ _) ?_))
    refine wpAny_setAddHashed_of (knd := PySem.strKind prog w) (s := { s' with toks := s'.toks + 1 }) (strKind_is _ _ _ _) rfl he' (by omega) fun h' hsb hS2 => ?_
    have hni : x ∉ xs.take i := not_in_take nd hx
    have he2 : Elem prog w xs (i + 1) S h' := SetOf_congr hS2 (fun y => by rw [take_more hx]; by_cases e : y ∈ xs.take i <;> by_cases e2 : y = x <;> simp [e, e2]) (by rw [if_neg (by simpa using hni)])
    refine wpAny_pure ⟨plainId_quiet PyProof.Rows.F.plain_set_update_loop _, set_loopT W off hl nd room val k (i + 1) _ (by omega) (W.frame _ s' _ _ hst' (Nat.le_succ _) fun b hb o e => ?_) he2 fun s2 hm2 he3 => ?_⟩
    · rw [hsb.2 b (fun h => off (h ▸ hb))]; exact e
    · refine hR s2 (Moved.trans W.gtrans ((hm.mono fun b hb => List.mem_cons_of_mem _ hb).then_heap (Nat.le_succ _) fun b o hb e => ?_) hm2) he3
      rw [hsb.2 b (fun h => hb (by rw [h]; exact List.mem_cons_self))]; exact e
end
section
variable {prog : Program} {w : World} {A : Around} {E : Value → Shared → Prop} {s : Shared}
theorem set_of_list {l : Addr} {items : Array Value} {xs : List Str} {Q : Value → Shared → Prop} (hh : A.handled = none) (hl : s.heap.IsList l items) (hi : PyProof.Rows.StrsAre items.toList xs) (nd : xs.Nodup) (room : xs.length < scanBound)
    (h : ∀ (h' : Heap) (tk : Nat), Elem prog w xs xs.length s.heap.objs.size h' → (∀ b o, s.heap.get? b = some o → h'.get? b = some o) → Q (.ref s.heap.objs.size) { s with heap := h', toks := tk }) :
    wpAny (model prog w) A (call (.type "set") [.ref l]) Q E s := by
  obtain ⟨c, tl, hmro⟩ := PySem.F.called_set.mro
  have hmade := PySem.F.called_set.made
  have hsub := PySem.F.called_set.sub
  refine wpAny_call (codeAny_of_tree ?_)
  refine wpAny_pure ⟨Code.quiet_builtin _ (by decide +kernel), codeAny_builtin PySem.F.entry_type_call ?_⟩
  rw [Around.under_plain (weight_type_call_type "set" [.ref l] []) rfl]
  have nt := PySem.F.called_set.notType
  have cc := PySem.F.called_set.canCreate
  have ct := PySem.F.typeCall_set_1 (.ref l)
  repeat (any_goals (first | assumption | wp_step))
  refine codeAny_mono (code_set_new_1 (.ref l) (E := E) (Q₁ := fun obj s1 => ∃ led : Bool, obj = .ref s.heap.objs.size ∧ s1 = { s with heap := s.heap.push { cls := .type "set", dict := none, data := .set #[] 0 (.fresh 0 0 led) } }) fun led => ⟨led, rfl, rfl⟩) fun r s1 hr => ?_
  match r, hr with
  | .ok (.ret obj), hr =>
    obtain ⟨led, rfl, rfl⟩ := hr
    have hS : (s.heap.push (setO led)).get? s.heap.objs.size = some (setO led) := Heap.get?_push_size _ rfl
    have hTy : Shared.TypeIs { s with heap := s.heap.push (setO led) } (.ref s.heap.objs.size) "set" := ⟨_, hS, rfl⟩
    have li := PySem.F.called_set.init.lookup
    have bi := PySem.F.called_set.init.bind (.ref s.heap.objs.size)
    repeat (any_goals (first | assumption | wp_step))
    refine codeAny_mono (codeAny_call_builtin (R := wants (fun r s2 => r = .none ∧ ∃ h' tk, s2 = { s with heap := h', toks := tk } ∧ Elem prog w xs xs.length s.heap.objs.size h' ∧ (∀ b o, s.heap.get? b = some o → h'.get? b = some o)) E)
      PySem.F.called_set.init.plain PySem.F.entry_set_init (check_set_init_1 hTy ?_)) fun r2 s2 hr2 => ?_
    · obtain ⟨⟨oc, od, odt, osl⟩, hol, hcl, nl, hdl⟩ := hl
      dsimp only at hcl hdl
      subst hcl hdl
      have hol' : (s.heap.push (setO led)).get? l = some { cls := .type "list", dict := od, data := .seq items nl, slots := osl } := Heap.get?_push_of_some _ hol
      have ss := PySem.F.sub_list_set
      have sf := PySem.F.sub_list_frozenset
      have ne : (Value.type "list" == Value.type "dict") = false := by decide
      have hl1 : (s.heap.push (setO led)).IsList l items := ⟨_, hol', rfl, nl, rfl⟩
      unfold Builtin.«set.__init__» noKeywords Builtin.Frozenset.updateFrom
      generalize hPI : pyIter = PI
      wp_walk
      subst hPI
      refine wpAny_pyIter_list hl1 ?_
      refine wpAny_bind (wpAny_runValue ?_)
      have hlS : l < s.heap.objs.size := Heap.lt_size hol
      have hz : (s.heap.push (setO led)).objs.size = s.heap.objs.size + 1 := Heap.size_push ..
      have neI : l ≠ (s.heap.push (setO led)).objs.size := by rw [hz]; exact Nat.ne_of_lt (Nat.lt_succ_of_lt hlS)
      have off : s.heap.objs.size ∉ [(s.heap.push (setO led)).objs.size, l] := by
        rw [hz]; simp only [List.mem_cons, List.not_mem_nil, or_false, not_or]
        exact ⟨Nat.ne_of_lt (Nat.lt_succ_self _), Nat.ne_of_gt hlS⟩
      have hsz : xs.length = items.size := by rw [← StrsAre.len_eq hi, Array.length_toList]
      refine set_loopT (xs := xs) ((Walks.list (A := A.in1.in1.in1) (by simp [hh]) _ l neI items).toS) off hsz nd (by rw [← hsz]; exact room) (fun i v hv => ?_) items.size 0 _ (Nat.zero_add _) ⟨⟨_, Heap.get?_push_size _ rfl, rfl, rfl⟩, hl1.push _⟩ ?_ fun s' hm hS' => ?_
      · obtain ⟨t, e⟩ := SS.strs_at hi i v (by rw [Array.getElem?_toList]; exact hv)
        have hlt : i < xs.length := by rw [hsz]; exact (Array.getElem?_eq_some_iff.mp hv).1
        exact ⟨xs[i], t, List.getElem?_eq_getElem hlt, by rw [e, List.getD_eq_getElem?_getD, List.getElem?_eq_getElem hlt]; rfl⟩
      · exact PyProof.Rows.SetOf_congr ((PyProof.Rows.setObjOf_fresh (knd := PySem.strKind prog w) led).setOf (Heap.get?_push_of_some _ hS) (by unfold scanBound; omega)) (fun _ => by simp) rfl
      · obtain ⟨h', g', d', tk', os'⟩ := s'
        obtain rfl : g' = s.gens := hm.gens
        obtain rfl : d' = s.drawn := hm.drawn
        obtain rfl : os' = s.os := hm.os
        refine wpAny_pure (wpAny_pure ⟨rfl, h', tk', rfl, by rw [hsz]; exact hS', fun b o e => ?_⟩)
        have hb : b < s.heap.objs.size := Heap.lt_size e
        refine hm.heap b o (fun hmem => ?_) (Heap.get?_push_of_some _ (Heap.get?_push_of_some _ e))
        have e' : b = s.heap.objs.size ∨ b = (s.heap.push (setO led)).objs.size := by simpa using hmem
        rcases e' with e' | e'
        · exact Nat.ne_of_lt hb e'
        · rw [hz] at e'; exact Nat.ne_of_lt (Nat.lt_succ_of_lt hb) e'
    · match r2, hr2 with
      | .ok (.ret r), hr2 =>
        obtain ⟨rfl, h', tk, rfl, hS', hk'⟩ := hr2
        repeat (any_goals (first | assumption | wp_step))
        exact h _ _ hS' hk'
      | .error e, hr2 => exact hr2
  | .error e, hr => exact hr
end
section
variable {prog : Program} {w : World} {A : Around} {E : Value → Shared → Prop} {s : Shared}
theorem set_of_tuple {l : Addr} {items : Array Value} {xs : List Str} {Q : Value → Shared → Prop} (hh : A.handled = none) (hl : s.heap.IsTuple l items) (hi : PyProof.Rows.StrsAre items.toList xs) (nd : xs.Nodup) (room : xs.length < scanBound)
    (h : ∀ (h' : Heap) (tk : Nat), Elem prog w xs xs.length s.heap.objs.size h' → (∀ b o, s.heap.get? b = some o → h'.get? b = some o) → Q (.ref s.heap.objs.size) { s with heap := h', toks := tk }) :
    wpAny (model prog w) A (call (.type "set") [.ref l]) Q E s := by
  obtain ⟨c, tl, hmro⟩ := PySem.F.called_set.mro
  have hmade := PySem.F.called_set.made
  have hsub := PySem.F.called_set.sub
  refine wpAny_call (codeAny_of_tree ?_)
  refine wpAny_pure ⟨Code.quiet_builtin _ (by decide +kernel), codeAny_builtin PySem.F.entry_type_call ?_⟩
  rw [Around.under_plain (weight_type_call_type "set" [.ref l] []) rfl]
  have nt := PySem.F.called_set.notType
  have cc := PySem.F.called_set.canCreate
  have ct := PySem.F.typeCall_set_1 (.ref l)
  repeat (any_goals (first | assumption | wp_step))
  refine codeAny_mono (code_set_new_1 (.ref l) (E := E) (Q₁ := fun obj s1 => ∃ led : Bool, obj = .ref s.heap.objs.size ∧ s1 = { s with heap := s.heap.push { cls := .type "set", dict := none, data := .set #[] 0 (.fresh 0 0 led) } }) fun led => ⟨led, rfl, rfl⟩) fun r s1 hr => ?_
  match r, hr with
  | .ok (.ret obj), hr =>
    obtain ⟨led, rfl, rfl⟩ := hr
    have hS : (s.heap.push (setO led)).get? s.heap.objs.size = some (setO led) := Heap.get?_push_size _ rfl
    have hTy : Shared.TypeIs { s with heap := s.heap.push (setO led) } (.ref s.heap.objs.size) "set" := ⟨_, hS, rfl⟩
    have li := PySem.F.called_set.init.lookup
    have bi := PySem.F.called_set.init.bind (.ref s.heap.objs.size)
    repeat (any_goals (first | assumption | wp_step))
    refine codeAny_mono (codeAny_call_builtin (R := wants (fun r s2 => r = .none ∧ ∃ h' tk, s2 = { s with heap := h', toks := tk } ∧ Elem prog w xs xs.length s.heap.objs.size h' ∧ (∀ b o, s.heap.get? b = some o → h'.get? b = some o)) E)
      PySem.F.called_set.init.plain PySem.F.entry_set_init (check_set_init_1 hTy ?_)) fun r2 s2 hr2 => ?_
    · obtain ⟨⟨oc, od, odt, osl⟩, hol, hcl, nl, hdl⟩ := hl
      dsimp only at hcl hdl
      subst hcl hdl
      have hol' : (s.heap.push (setO led)).get? l = some { cls := .type "tuple", dict := od, data := .seq items nl, slots := osl } := Heap.get?_push_of_some _ hol
      have ss := PySem.F.sub_tuple_set
      have sf := PySem.F.sub_tuple_frozenset
      have ne : (Value.type "tuple" == Value.type "dict") = false := by decide
      have hl1 : (s.heap.push (setO led)).IsTuple l items := ⟨_, hol', rfl, nl, rfl⟩
      unfold Builtin.«set.__init__» noKeywords Builtin.Frozenset.updateFrom
      generalize hPI : pyIter = PI
      wp_walk
      subst hPI
      refine wpAny_pyIter_tuple hl1 ?_
      refine wpAny_bind (wpAny_runValue ?_)
      have hlS : l < s.heap.objs.size := Heap.lt_size hol
      have hz : (s.heap.push (setO led)).objs.size = s.heap.objs.size + 1 := Heap.size_push ..
      have neI : l ≠ (s.heap.push (setO led)).objs.size := by rw [hz]; exact Nat.ne_of_lt (Nat.lt_succ_of_lt hlS)
      have off : s.heap.objs.size ∉ [(s.heap.push (setO led)).objs.size, l] := by
        rw [hz]; simp only [List.mem_cons, List.not_mem_nil, or_false, not_or]
        exact ⟨Nat.ne_of_lt (Nat.lt_succ_self _), Nat.ne_of_gt hlS⟩
      have hsz : xs.length = items.size := by rw [← StrsAre.len_eq hi, Array.length_toList]
      refine set_loopT (xs := xs) ((Walks.tuple (A := A.in1.in1.in1) (by simp [hh]) _ l neI items).toS) off hsz nd (by rw [← hsz]; exact room) (fun i v hv => ?_) items.size 0 _ (Nat.zero_add _) ⟨⟨_, Heap.get?_push_size _ rfl, rfl, rfl⟩, hl1.push _⟩ ?_ fun s' hm hS' => ?_
      · obtain ⟨t, e⟩ := SS.strs_at hi i v (by rw [Array.getElem?_toList]; exact hv)
        have hlt : i < xs.length := by rw [hsz]; exact (Array.getElem?_eq_some_iff.mp hv).1
        exact ⟨xs[i], t, List.getElem?_eq_getElem hlt, by rw [e, List.getD_eq_getElem?_getD, List.getElem?_eq_getElem hlt]; rfl⟩
      · exact PyProof.Rows.SetOf_congr ((PyProof.Rows.setObjOf_fresh (knd := PySem.strKind prog w) led).setOf (Heap.get?_push_of_some _ hS) (by unfold scanBound; omega)) (fun _ => by simp) rfl
      · obtain ⟨h', g', d', tk', os'⟩ := s'
        obtain rfl : g' = s.gens := hm.gens
        obtain rfl : d' = s.drawn := hm.drawn
        obtain rfl : os' = s.os := hm.os
        refine wpAny_pure (wpAny_pure ⟨rfl, h', tk', rfl, by rw [hsz]; exact hS', fun b o e => ?_⟩)
        have hb : b < s.heap.objs.size := Heap.lt_size e
        refine hm.heap b o (fun hmem => ?_) (Heap.get?_push_of_some _ (Heap.get?_push_of_some _ e))
        have e' : b = s.heap.objs.size ∨ b = (s.heap.push (setO led)).objs.size := by simpa using hmem
        rcases e' with e' | e'
        · exact Nat.ne_of_lt hb e'
        · rw [hz] at e'; exact Nat.ne_of_lt (Nat.lt_succ_of_lt hb) e'
    · match r2, hr2 with
      | .ok (.ret r), hr2 =>
        obtain ⟨rfl, h', tk, rfl, hS', hk'⟩ := hr2
        repeat (any_goals (first | assumption | wp_step))
        exact h _ _ hS' hk'
      | .error e, hr2 => exact hr2
  | .error e, hr => exact hr
end
section
variable {X : Cx}
def tLenSetT (K : PySem.W.Frag) (ta : TE) : TE := fun σ H Q => ta σ H fun x H1 => ∃ (l : Addr) (xs : List (List Nat)), x = V.ref l ∧ (SqL K H1 l (txs xs) ∨ SqT K H1 l (txs xs)) ∧ xs.length < 60 ∧ xs.Nodup ∧ Q (.int xs.length) H1
theorem nodup_S {xs : List (List Nat)} (h : xs.Nodup) : (xs.map S).Nodup := List.pairwise_map.mpr (h.imp fun n e => n (by have : (S _).cps.toList = (S _).cps.toList := congrArg (fun z : Str => z.cps.toList) e; simpa [S] using this))
theorem pe_lenSetT {a : Expr} {ta : TE} {p p2 q pos : Pos} (hc : X.calm = true) (hg : Gl X "len") (hm : X.mg "len" = none) (hg2 : Gl X "set") (hm2 : X.mg "set" = none) (ha : PE X a ta)
    (na : starEach [a] X.env = (false, eval a X.env) :: starEach [] X.env := by rfl) : PE X (.Call (.Name "len" p) [.Call (.Name "set" p2) [a] [] q] [] pos) (tLenSetT X.K ta) := by
  refine ⟨fun pins s σ H Q I h => ?_⟩
  refine Call_ (ld_blt I hg hm PySem.boot_len (PyProof.Rows.callWith_builtin1 (PyProof.Rows.args_cons ?_ rfl) rfl rfl))
  refine Call_ (ld_blt I hg2 hm2 PyProof.Rows.boot_set (PyProof.Rows.callWith_type1 (PyProof.Rows.args_cons (thn (ha.run pins s σ H _ I h) fun v s1 ⟨x, H1, I1, r1, q1⟩ => PyProof.Rows.args_nil ?_) na) na rfl))
  obtain ⟨l, xs, rfl, hq, h1, hnd, q1⟩ := q1
  cases r1
  have e0 : txs xs = (xs.map S).map V.str := by unfold txs; rw [List.map_map]; rfl
  have room : (xs.map S).length < scanBound := by rw [List.length_map]; unfold scanBound; omega
  have fin : ∀ (h' : Heap) (tk : Nat), Elem X.prog X.w (xs.map S) (xs.map S).length s1.heap.objs.size h' → (∀ b o, s1.heap.get? b = some o → h'.get? b = some o) →
      wpAny (model X.prog X.w) X.A (spliced (backTo pos (starEach [] X.env))) (fun vs s₂ => wpAny (model X.prog X.w) X.A (call (.builtin "len") (Value.ref s1.heap.objs.size :: vs)) (EP X pins σ Q) X.xe s₂) X.xe { s1 with heap := h', toks := tk } := fun h' tk hS hk => by
    refine PyProof.Rows.args_nil ?_
    obtain ⟨o, es, ep, t, ho, hex, hd, _, _, _, hf, hn⟩ := hS
    have I2 : Inv X pins σ H1 { s1 with heap := h', toks := tk } := I1.kept hk
    rw [List.length_map] at hn
    exact call_len_set ho hex hd hf (by rw [hn]; omega) ⟨.int xs.length, H1, I2.tok _, ⟨_, by rw [hn]⟩, q1⟩
  rcases hq with hq | hq
  · rw [e0] at hq
    obtain ⟨its, r, pl, hz⟩ := I1.list hq
    exact set_of_list (I1.ok.hd hc) pl.isList (by simpa using strsAre_of r) (nodup_S hnd) room fun h' tk hS hk => fin h' tk hS hk
  · rw [e0] at hq
    obtain ⟨its, r, pl, hz⟩ := I1.tuple hq
    exact set_of_tuple (I1.ok.hd hc) pl (by simpa using strsAre_of r) (nodup_S hnd) room fun h' tk hS hk => fin h' tk hS hk
end
end LX
set_option maxHeartbeats 2000000
namespace LX
open PySem PySem.Spec PyProof.Rows L2 C8 SX
def SqB (K : PySem.W.Frag) (b : Bool) (H : Hp) (a : Addr) (xs : List V) : Prop := if b = true then SqL K H a xs else SqT K H a xs
def ItA (K : PySem.W.Frag) (b : Bool) (a : Addr) : It := if b = true then Itl K a else Itt K a
theorem SqB.or {K : PySem.W.Frag} {b : Bool} {H : Hp} {a : Addr} {xs : List V} (h : SqB K b H a xs) : SqL K H a xs ∨ SqT K H a xs := by
  cases b
  · exact .inr h
  · exact .inl h
theorem SqB.same {K : PySem.W.Frag} {b : Bool} {H H' : Hp} {a : Addr} {xs : List V} (h : SqB K b H a xs) (s : Same H H') : SqB K b H' a xs := by
  cases b
  · exact sm_seqT s h
  · exact s.seq h
theorem SqB.lst {K : PySem.W.Frag} {H : Hp} {a : Addr} {xs : List V} (h : H a = some (.lst xs)) : SqB K true H a xs := SqL.of h
theorem SqB.tup {K : PySem.W.Frag} {H : Hp} {a : Addr} {xs : List V} (h : H a = some (.tup xs)) : SqB K false H a xs := SqT.of h
def seqB (b : Bool) (xs : List V) : HO := if b = true then .lst xs else .tup xs
theorem SqB.of {K : PySem.W.Frag} {b : Bool} {H : Hp} {a : Addr} {xs : List V} (h : H a = some (seqB b xs)) : SqB K b H a xs := by
  cases b
  · exact SqB.tup h
  · exact SqB.lst h
theorem walk_seq {K : PySem.W.Frag} {b : Bool} {a : Addr} {xs : List V} : Walk (ItA K b a) xs.length (fun H => SqB K b H a xs) (YAt xs) := by
  cases b
  · exact walk_tup
  · exact walk_list
def iSeq (K : PySem.W.Frag) (tl : TE) : TI := fun σ H R => tl σ H fun x H1 => ∃ a b xs, x = .ref a ∧ SqB K b H1 a xs ∧ R (ItA K b a) H1
theorem pi_seq {X : Cx} {tg l : Expr} {tl : TE} (hl : PE X l tl) : PI X tg l (iSeq X.K tl) := by
  refine ⟨fun pins s σ H R I h => thn (hl.run pins s σ H _ I h) fun v s1 ⟨x, H1, I1, r1, a, b, xs, e, hq, q⟩ => ?_⟩
  subst e
  cases r1
  have new : ∀ c ∈ [s1.heap.objs.size], FpOk X pins H1 c := fun c hc => by
    rw [List.mem_singleton.mp hc]
    exact I1.fpOk (Nat.le_refl _) (I1.hok.fresh (Nat.le_refl _))
  cases b with
  | true =>
    obtain ⟨its, rv, p, hz⟩ := I1.list hq
    exact wpAny_pyIter_list p.isList ⟨s1.heap.objs.size, _, _, _, H1, rfl, I1.kept (t' := s1.toks) fun b o e => Heap.get?_push_of_some _ e, turn_list a _, ⟨_, Heap.get?_push_size _ rfl, rfl, rfl⟩, new, q⟩
  | false =>
    obtain ⟨its, rv, p, hz⟩ := I1.tuple hq
    exact wpAny_pyIter_tuple (show s1.heap.IsTuple a its.toArray from p) ⟨s1.heap.objs.size, _, _, _, H1, rfl, I1.kept (t' := s1.toks) fun b o e => Heap.get?_push_of_some _ e, turn_tuple a _, ⟨_, Heap.get?_push_size _ rfl, rfl, rfl⟩, new, q⟩
theorem pi_listK {X : Cx} {tg l : Expr} {tl : TE} (K : PySem.W.Frag) (hl : PE X l tl) (h : X.K = K := by rfl) : PI X tg l (iList K tl) := by subst h; exact pi_list hl
theorem pi_tupK {X : Cx} {tg l : Expr} {tl : TE} (K : PySem.W.Frag) (hl : PE X l tl) (h : X.K = K := by rfl) : PI X tg l (iTup K tl) := by subst h; exact pi_tup hl
theorem pi_seqK {X : Cx} {tg l : Expr} {tl : TE} (K : PySem.W.Frag) (hl : PE X l tl) (h : X.K = K := by rfl) : PI X tg l (iSeq K tl) := by subst h; exact pi_seq hl
def inS : Expr → Scope
  | .ListComp (.ListComp _ _ s _) _ _ _ => s
  | _ => { kind := .function, names := [], isGenerator := false, isCoroutine := false }
def outS : Expr → Scope
  | .ListComp _ _ s _ => s
  | _ => { kind := .function, names := [], isGenerator := false, isCoroutine := false }
def ofRet : Stmt → Expr
  | .Return (some e) _ => e
  | .Assign _ e _ => e
  | _ => .Constant .none 0 ⟨0, 0, 0, 0⟩
theorem tuple_of {K : PySem.W.Frag} {b : Bool} {H : Hp} {a : Addr} {xs : List V} {Q : VK} (h : SqB K b H a xs) (q1 : ∀ l, H l = none → Q (.ref l) (upd H l (.tup xs))) (q2 : b = false → Q (.ref a) H) :
    (SqL K H a xs ∧ ∀ l, H l = none → Q (.ref l) (upd H l (.tup xs))) ∨ (SqT K H a xs ∧ Q (.ref a) H) := by
  cases b
  · exact .inr ⟨h, q2 rfl⟩
  · exact .inl ⟨h, q1⟩
theorem tupA {K : PySem.W.Frag} {b : Bool} {H : Hp} {a : Addr} {xs : List V} {Q : VK} (h : H a = some (seqB b xs)) (k : ∀ l H', Same H H' → H' l = some (.tup xs) → (b = false → l = a) → (b = true → H l = none) → Q (.ref l) H') :
    (SqL K H a xs ∧ ∀ l, H l = none → Q (.ref l) (upd H l (.tup xs))) ∨ (SqT K H a xs ∧ Q (.ref a) H) := by
  cases b
  · exact .inr ⟨SqT.of h, k a H (Same.refl H) h (fun _ => rfl) (fun h => nomatch h)⟩
  · exact .inl ⟨SqL.of h, fun l hl => k l _ (sm_new hl) upd_same (fun h => nomatch h) (fun _ => hl)⟩
theorem tCB_tup {K : PySem.W.Frag} {b : Bool} {i : Nat} {σ : L2.St} {H : Hp} {a : Addr} {xs : List V} {Q : VK} (hv : σ[i]? = some (some (.ref a))) (h : H a = some (seqB b xs)) (k : ∀ l H', Same H H' → H' l = some (.tup xs) → (b = false → l = a) → (b = true → H l = none) → Q (.ref l) H') :
    tCB (fun xs H Q => ∃ p ys, xs = [.ref p] ∧ ((SqL K H p ys ∧ ∀ l, H l = none → Q (.ref l) (upd H l (.tup ys))) ∨ (SqT K H p ys ∧ Q (.ref p) H))) (tCons (tVar i) tNil) σ H Q :=
  ⟨_, hv, a, xs, rfl, tupA (Q := Q) h k⟩
theorem eqV_S {x y : List Nat} : eqV (.str (S x)) (.str (S y)) = decide (x = y) := by
  show (S x == S y) = _
  by_cases e : x = y
  · subst e; simp
  · have : S x ≠ S y := fun h => e (by have : (S x).cps.toList = (S y).cps.toList := congrArg (fun z : Str => z.cps.toList) h; simpa [S] using this)
    rw [decide_eq_false e]; simpa using this
theorem flat_txs (xs : List (List Nat)) : (txs xs).all flatV = true := by
  unfold txs; rw [List.all_map]; exact List.all_eq_true.mpr fun _ _ => rfl
theorem inV_txs {x : List Nat} {xs : List (List Nat)} : inV (.str (S x)) (txs xs) = decide (x ∈ xs) := by
  unfold inV txs
  induction xs with
  | nil => rfl
  | cons y ys ih =>
    rw [List.map_cons, List.any_cons, ih]
    show (eqV (.str (S y)) (.str (S x)) || _) = _
    rw [eqV_S]
    by_cases e : y = x <;> by_cases e2 : x ∈ ys <;> simp [e, e2]
    · intro h; exact absurd h.symm e
theorem dictZipK {X : Cx} (K : PySem.W.Frag) {e e2 : Expr} {ta : TA} {p p2 pos pos2 : Pos} (hc : X.calm = true) (hgd : Gl X "dict") (hmd : X.mg "dict" = none) (hg : Gl X "zip") (hm : X.mg "zip" = none) (ha : PA X [e, e2] ta) (h : X.K = K := by rfl)
    (hs : starEach [e, e2] X.env = (false, eval e X.env) :: starEach [e2] X.env := by rfl) (hpl : (backTo pos2 (starEach [e2] X.env)).any (·.1) = false := by rfl)
    (hs' : starEach [.Call (.Name "zip" p2) [e, e2] [] pos2] X.env = (false, eval (.Call (.Name "zip" p2) [e, e2] [] pos2) X.env) :: starEach [] X.env := by rfl) (hpl' : (backTo pos (starEach [] X.env)).any (·.1) = false := by rfl) :
    PE X (.Call (.Name "dict" p) [.Call (.Name "zip" p2) [e, e2] [] pos2] [] pos) (tDictZip K ta) := by subst h; exact pe_dictZip hc hgd hmd hg hm ha hs hpl hs' hpl'
end LX
set_option maxHeartbeats 1000000
namespace Toy
open PySem L2 C8 SX LX
local macro_rules | `(tactic| walk_at "c") => `(tactic| refine And.intro (by first | (show (0 : Int) < _; omega) | exact Or.inr ⟨by decide, by decide⟩ | exact Or.inl ⟨by decide, by decide⟩ | (exact ⟨by omega, by omega⟩)) ?_)
local macro_rules | `(tactic| walk_at "s1") => `(tactic| first | refine ⟨_, rfl, ?_⟩ | refine ⟨_, _, rfl, rfl, ?_⟩ | refine .inl ⟨_, rfl, ?_⟩ | walk_at "c")
local macro_rules | `(tactic| walk_at "s") => `(tactic| repeat (walk_at "s1"))
section
variable {P : Program} {w : World} {K : PySem.W.Frag} {mg : Str → Option Value} {base : Heap}
theorem all_true : ∀ {ys : List V}, (∀ (j : Nat) y, ys[j]? = some y → y = .bl true) → ys = (List.replicate ys.length true).map V.bl
  | [], _ => rfl
  | y :: ys, h => by
    rw [List.length_cons, List.replicate_succ, List.map_cons, ← all_true (ys := ys) fun j z e => h (j + 1) z e, h 0 y rfl]
theorem rep_all (n : Nat) : (List.replicate n true).all id = true := by simp
theorem cut_any (ys : List V) (k : Nat) : cutV ys none (some (k : Int)) = ys.take k := by
  unfold cutV
  rw [HT.sIx_none, HT.sIx_nat, List.drop_zero, Nat.sub_zero]
  rcases Nat.le_total k ys.length with h | h
  · rw [Nat.min_eq_left h]
  · rw [Nat.min_eq_right h, List.take_length, List.take_of_length_le h]
abbrev s_box : Stmt := top 41
abbrev n_box : List Str := ["script", "base", "cell", "stirred", "one"]
theorem sc_box : FnScope n_box ["script", "base"] (fnScope s_box) := fnScope_by (by decide +kernel)
def spBox : PySem.W.Frag → Sp := fun K vs H Q _ => ∃ (a : Addr) (k : Nat) (ns : List Int), vs = [.ref a, .int k] ∧ SqL K H a (ns.map V.int) ∧ ns.length ≤ 63 ∧ k ≤ 10 ∧
  ∀ (p : Addr) (H' : Hp), Same H H' → H p = none → BoxAt p H' → Q (.ref p) H'
theorem int_at {ns : List Int} {i : Nat} (h : i < ns.length) : ∃ z : Int, (ns.map V.int)[i]? = some (.int z) := ⟨ns[i], by rw [List.getElem?_map, List.getElem?_eq_getElem h]; rfl⟩
theorem ok_box (T : BT mg) {f : Addr} {fd : FuncData} (F : Def K mg "_law_box" s_box f fd) (b : Binds K fd ["script", "base"] []) : Cal P w K mg base 1 "_law_box" (spBox K) [] := by
  refine cal0 F b .nil sc_box (fun vs H Q E h => ?_) (fun cdv A outer s H vs Q E hr h => ?_)
  · obtain ⟨a, k, ns, rfl, _⟩ := h; rfl
  · obtain ⟨a, k, ns, rfl, ha, hl, hk, kk⟩ := h
    refine ⟨_, (C8.pss_cut (ps_set (i := 2) sc_box.nd rfl (.inl rfl) (pe_ifExp (pt_cmpR op_lt (pv 1) (pe_callB (lenK K) (by rfl) T.m_len PySem.boot_len (pa_cons (pv 0) pa_nil)) (nomark _)) (pe_callB call_abs (by rfl) T.m_abs PyProof.Rows.boot_abs (pa_cons (pe_callTy call_int1 (by rfl) T.m_int PyProof.Rows.boot_int (pa_cons (pe_ix (ixl K) (pv 0) (pv 1) (fun _ _ => rfl)) pa_nil)) pa_nil)) pe_int))
      (pss_cons (ps_set (i := 3) sc_box.nd rfl (.inl rfl) (pe_op op_add pe_int (pe_op op_mul pe_int (pv 1))))
      (pss_cons (ps_for PassesOwn.never rfl (pi_list (pe_slice sl_list (pv 0) po_none (po_some pe_int))) (pg_name (i := 4) sc_box.nd rfl (.inl rfl)) 
        (pss_one (ps_set (i := 3) sc_box.nd rfl (.inl rfl) (pe_op op_mod (pe_callTy call_int1 (by rfl) T.m_int PyProof.Rows.boot_int (pa_cons (pe_op op_add (pe_op op_add (pe_op op_mul (pv 3) pe_int) (pe_op op_mod (pe_callB call_abs (by rfl) T.m_abs PyProof.Rows.boot_abs (pa_cons (pe_callTy call_int1 (by rfl) T.m_int PyProof.Rows.boot_int (pa_cons (pv 4) pa_nil)) pa_nil)) pe_int)) pe_int) pa_nil)) pe_int))
        ))
      (pss_one (ps_ret (pe_lst (pa_cons (pe_ifExp (pt_cmpR op_ge (pv 2) (pe_op op_pow pe_int pe_int) (nomark _)) (pv 2) pe_int) (pa_cons (pv 3) (pa_cons pe_int pa_nil)))))
      )))), ?_⟩
    refine ⟨fun σ H' => H' = H ∧ ∃ c : Int, σ = [some (.ref a), some (.int k), some (.int c), none, none], ?_, ?_⟩
    · walk_at "s"
      refine ⟨_, _, rfl, .inl ha, ?_⟩
      walk_at "s"
      refine ite2 (fun hk => ?_) (fun hk => ?_)
      · rw [List.length_map, decide_eq_true_eq] at hk
        obtain ⟨z, hz⟩ := int_at (ns := ns) (i := k) (by omega)
        walk_at "s"
        refine ⟨_, _, _, .int z, rfl, rfl, ha, at_of rfl hz, ?_⟩
        walk_at "s"
        exact ⟨rfl, _, rfl⟩
      · exact ⟨rfl, _, rfl⟩
    · rintro σ H' ⟨rfl, c, rfl⟩
      walk_at "s"
      refine ⟨a, _, rfl, ha, fun q hq => ?_⟩
      rw [show (44 : Int) = ((44 : Nat) : Int) from rfl, cut_any, ← List.map_take]
      refine ⟨q, rfl, ⟨_, SqL.of upd_same⟩, for_it (walk_list (K := K) (a := q) (xs := (ns.take 44).map V.int)) (fun i σ H2 => Same H' H2 ∧ H2 q = some (.lst ((ns.take 44).map V.int)) ∧ ∃ (st : Int) (s4 : Option V), σ = [some (.ref a), some (.int k), some (.int c), some (.int st), s4]) ⟨sm_new hq, upd_same, _, _, rfl⟩ (fun i σ H2 _ h => SqL.of h.2.1) ?_ ?_⟩
      · rintro i x σ H2 H2' hi ⟨hs, hq2, st, s4, rfl⟩ ⟨rfl, hx⟩
        rw [List.getElem?_map] at hx
        obtain ⟨z, hz, rfl⟩ : ∃ z, (ns.take 44)[i]? = some z ∧ x = .int z := by
          cases h : (ns.take 44)[i]? with
          | none => rw [h] at hx; cases hx
          | some z => rw [h] at hx; exact ⟨z, rfl, (Option.some.inj hx).symm⟩
        walk_at "s"
        exact ⟨hs, hq2, _, _, rfl⟩
      · rintro σ H2 ⟨hs, hq2, st, s4, rfl⟩
        walk_at "s"
        refine ite2 (fun _ => ?_) (fun _ => ?_)
        · walk_at "s"
          exact ⟨(by show 3 ≤ sizeLine; decide), fun p hp => kk p _ (hs.trans (sm_new hp)) (hs.free hp) (BoxAt.of upd_same)⟩
        · walk_at "s"
          exact ⟨(by show 3 ≤ sizeLine; decide), fun p hp => kk p _ (hs.trans (sm_new hp)) (hs.free hp) (BoxAt.of upd_same)⟩
end
end Toy
set_option maxHeartbeats 2000000
namespace LX
open PySem PySem.Spec PyProof.Rows L2 C8 SX NdefX
noncomputable def upB (h base : Heap) (cs : List Addr) : Heap := hidT h fun b => if (base.get? b).isSome = true ∨ b ∈ cs then none else some (.lst [])
theorem upB_get {h base : Heap} {cs : List Addr} {b : Addr} {o : Obj} (e : h.get? b = some o) (n : (base.get? b).isSome = true ∨ b ∈ cs) : (upB h base cs).get? b = some o := hidT_get e (if_pos n)
theorem of_upB {h base : Heap} {cs : List Addr} {b : Addr} {o : Obj} (e : (upB h base cs).get? b = some o) : h.get? b = some o ∧ ((base.get? b).isSome = true ∨ b ∈ cs) := by
  obtain ⟨e1, e2⟩ := of_hidT e
  refine ⟨e1, ?_⟩
  by_cases n : (base.get? b).isSome = true ∨ b ∈ cs
  · exact n
  · have e2 : (if (base.get? b).isSome = true ∨ b ∈ cs then none else some (HO.lst [])) = none := e2
    rw [if_neg n] at e2; cases e2
structure BCells (cl : List (Str × Addr)) (fr : List Str) (ws : List (Option V)) (base : Heap) : Prop where
  len : ws.length = fr.length
  all : ∀ y c, cl.lookup y = some c → ∃ v, base.IsCell c v
  inj : ∀ x y c, cl.lookup x = some c → cl.lookup y = some c → x = y
  has : ∀ (i : Nat) (y : Str), fr[i]? = some y → ∃ c, cl.lookup y = some c ∧ ∀ v, ws[i]? = some (some v) → ∃ u, RelV v u ∧ base.IsCell c (some u)
theorem BCells.at_ {cl : List (Str × Addr)} {fr : List Str} {ws : List (Option V)} {base : Heap} (b : BCells cl fr ws base) {h : Heap} {H : Hp} (bs : ∀ b o, base.get? b = some o → h.get? b = some o ∧ H b = none) : CellsAt cl fr ws h H :=
  ⟨b.len, fun y c e => let ⟨v, o, e1, e2⟩ := b.all y c e; ⟨(bs _ _ e1).2, v, o, (bs _ _ e1).1, e2⟩, b.inj, fun i y e => let ⟨c, e1, f⟩ := b.has i y e; ⟨c, e1, fun v hv => let ⟨u, r, o, e2, e3⟩ := f v hv; ⟨u, r, o, (bs _ _ e2).1, e3⟩⟩⟩
section
variable {X : Cx} {pins : List (Addr × Obj)} {σ : L2.St} {H : Hp} {s : Shared}
theorem funs_up {h base : Heap} {cs : List Addr} : ∀ {l : List Env}, h.FunFrames base l → (∀ b ∈ frs l, b ∉ cs) → h.FunFrames (upB h base cs) l
  | [], _, _ => trivial
  | env :: rest, ⟨a, ⟨L, o, e1, e2, e3, e4⟩, r⟩, n => by
    have hm : L ∈ frs (env :: rest) := by unfold frs; rw [List.filterMap_cons, e1]; exact List.mem_cons_self
    refine ⟨a, ⟨L, o, e1, ?_, e3, e4⟩, funs_up r fun b hb => n b ?_⟩
    · cases q : (upB h base cs).get? L with
      | none => rfl
      | some o' =>
        rcases (of_upB q).2 with z | z
        · rw [e2] at z; cases z
        · exact absurd z (n L hm)
    · unfold frs at hb ⊢; rw [List.filterMap_cons, e1]; exact List.mem_cons_of_mem _ hb
theorem env_up (I : Inv X pins σ H s) {cs : List Addr} (hc : ∀ c ∈ cs, ∃ x, X.env.cells.lookup x = some c ∧ X.fn x = true) : Env0 X.prog X.w X.K X.mg (upB s.heap X.base cs) X.A X.stack s H := by
  have e0 := I.env0
  have k : ∀ b o, X.base.get? b = some o → (upB s.heap X.base cs).get? b = some o := fun b o e => upB_get (e0.bs b o e).1 (.inl (by rw [e]; rfl))
  obtain ⟨mb, b1, b2⟩ := e0.mod.blt
  refine ⟨e0.frames, ⟨fun b o e => k b o (e0.mod.kin b o e), e0.mod.glob.keeps k, ⟨mb, b1.keeps k, b2⟩, e0.mod.nolimit.keeps k⟩, fun b o e => ?_, Nat.le_of_eq (hidT_size _ _), funs_up e0.funs fun L hL hm => ?_, e0.frf, e0.hok, e0.bare⟩
  · obtain ⟨e1, n⟩ := of_upB e
    refine ⟨e1, ?_⟩
    rcases n with n | n
    · obtain ⟨o', q⟩ := Option.isSome_iff_exists.mp n
      exact (e0.bs b o' q).2
    · obtain ⟨x, hx, _⟩ := hc b n
      exact I.freeC x b hx
  · obtain ⟨x, hx, hf⟩ := hc L hm
    have above := I.ok.cab x L hf hx
    have out : ∀ l : List Env, X.s_0.heap.FunFrames X.base l → L ∈ frs l → False := fun l => by
      induction l with
      | nil => intro _ h; simp [frs] at h
      | cons env rest ih =>
        rintro ⟨_, ⟨M, o, e1, _, e3, _⟩, r⟩ h
        unfold frs at h; rw [List.filterMap_cons, e1] at h
        rcases List.mem_cons.mp h with z | z
        · have := Heap.lt_size e3
          rw [← z] at this
          exact Nat.lt_irrefl _ (Nat.lt_of_lt_of_le this above)
        · exact ih r z
    rcases I.ok.stk with e | ⟨e, ef⟩
    · rw [e] at hL; exact out _ I.ok.funs hL
    · rw [e] at hL
      unfold frs at hL; rw [List.filterMap_cons, ef] at hL
      rcases List.mem_cons.mp hL with z | z
      · obtain ⟨m, ⟨o, es, ep, e1, e2, _⟩, _⟩ := I.loc
        obtain ⟨v, o', q1, q2⟩ := I.cell x L hx
        rw [z, e1] at q1
        cases q1
        rw [e2] at q2; cases q2
      · exact out _ I.ok.funs z
theorem cells_up (I : Inv X pins σ H s) {cl : List (Str × Addr)} {fr : List Str} {js : List Nat} (c : Caps X cl fr js) : BCells cl fr (js.map (slotAt σ)) (upB s.heap X.base (cl.map (·.2))) := by
  have C := cells_of I c
  have mem : ∀ {y : Str} {a : Addr}, cl.lookup y = some a → a ∈ cl.map (·.2) := fun {y a} h => by
    obtain ⟨l1, l2, e, _⟩ := List.lookup_eq_some_iff.mp h
    rw [e]; simp
  refine ⟨C.len, fun y a e => ?_, C.inj, fun i y e => ?_⟩
  · obtain ⟨_, v, o, e1, e2⟩ := C.all y a e
    exact ⟨v, o, upB_get e1 (.inr (mem e)), e2⟩
  · obtain ⟨a, e1, f⟩ := C.has i y e
    exact ⟨a, e1, fun v hv => let ⟨u, r, o, e2, e3⟩ := f v hv; ⟨u, r, o, upB_get e2 (.inr (mem e1)), e3⟩⟩
def tUp (S : List (Option V) → Sp → Prop) (js : List Nat) (t : TA) : TE := fun σ H Q => t σ H fun vs H1 => ∃ sp, S (js.map (slotAt σ)) sp ∧ sp vs H1 Q C8.E0
theorem pe_cUp {k j : Nat} {g : Addr} {x : Str} {p pos : Pos} {e : Expr} {es : List Expr} {t : TA} {cl : List (Str × Addr)} {fr : List Str} {js : List Nat} {S : List (Option V) → Sp → Prop} (named : X.mg x = some (.ref g)) (kept : PySem.W.keepIn X.K (.ref g) = true)
    (cp : X.Ok → Caps X cl fr js) (hfn : ∀ y c, cl.lookup y = some c → X.fn y = true)
    (hS : ∀ ws sp (base' : Heap), S ws sp → X.K.In base' → base'.Ns mainGlobals X.mg → BCells cl fr ws base' → Cal X.prog X.w X.K X.mg base' k x sp []) (room : Room j X.A) (hk : k ≤ j) (hg : Gl X x) (ha : PA X (e :: es) t) (nd : cl.map (·.1) |>.Nodup) (hdb : (x == ("__debug__" : Str)) = false := by decide)
    (he : starEach (e :: es) X.env = (false, eval e X.env) :: starEach es X.env := by rfl) (hpl : (backTo pos (starEach es X.env)).any (·.1) = false := by rfl) : PE X (.Call (.Name x p) (e :: es) [] pos) (tUp S js t) := by
  constructor
  intro pins s σ H Q I want
  refine wpAny_Call_Name_kw (ld_glob I hg named ?_ hdb)
  refine PySem.W.callWith_K (h₀ := X.base) I.ok.mod.kin kept (thn (ha.run pos pins s σ H _ I want) ?_) he hpl
  rintro us s1 ⟨vs, H1, I1, rel, sp, s0, q⟩
  refine ⟨I1.kIn, ?_⟩
  have C := cp I1.ok
  have hcs : ∀ c ∈ cl.map (·.2), ∃ x, X.env.cells.lookup x = some c ∧ X.fn x = true := fun c hc => by
    obtain ⟨⟨y, c'⟩, hm, rfl⟩ := List.mem_map.mp hc
    have hl : cl.lookup y = some c' := by
      clear C hfn hS cp
      induction cl with
      | nil => cases hm
      | cons a r ih =>
        obtain ⟨z, d⟩ := a
        rw [List.map_cons, List.nodup_cons] at nd
        rcases List.mem_cons.mp hm with h | h
        · cases h; exact List.lookup_cons_self ..
        · have hne : (y == z) = false := by
            refine beq_eq_false_iff_ne.mpr fun e => nd.1 ?_
            rw [← e]; exact List.mem_map_of_mem (f := (·.1)) h
          rw [List.lookup_cons, hne]
          exact ih nd.2 h (List.mem_map_of_mem (f := (·.2)) h)
    exact ⟨y, C.sub y c' hl, hfn y c' hl⟩
  have E1 := env_up I1 hcs
  obtain ⟨f, fd, ps, ds, F, named', _, bd, dv⟩ := (hS _ sp _ s0 E1.mod.kin E1.mod.glob (cells_up I1 C)).ex
  rw [named] at named'
  cases named'
  cases dv
  have count : (us ++ []).length = ps.length := by rw [List.append_nil, ← rel.length]; exact F.len _ _ _ _ q
  have bs := bd s1 us I1.kIn count
  rw [List.append_nil] at bs
  refine wpAny_call (codeAny_mono (F.run X.A X.stack s1 H1 ⟨us, []⟩ us vs Q C8.E0 (room.mono hk) E1 bs rel q) fun r t' got => ?_)
  match r, got with
  | .ok (.ret u), got => exact I1.after got
end
def CV (P : Program) (w : World) (K : PySem.W.Frag) (mg : Str → Option Value) (base : Heap) (k : Nat) (g : Addr) (tr : Hp → Prop) (sp : Sp) : Prop :=
  Held P w K mg base k g sp ∨
    ∃ (F : NF) (ps fr : List Str) (ws : List (Option V)) (nsp : List (Option V) → Sp), NOk P w K mg base C8.CX0 k g F ps fr nsp ∧ (∀ vs H Q, tr H → sp vs H Q C8.E0 → nsp ws vs H Q C8.E0) ∧ BCells F.cl fr ws base ∧ ∀ H, tr H → H g = some (FnO g F) ∧ H F.c = some (LamX.CodeO F.c F.qual)
def tCallV (i : Nat) (g : Addr) (tr : Hp → Prop) (sp : Sp) (t : TA) : TE := fun σ H Q => σ[i]? = some (some (.ref g)) ∧ tr H ∧ t σ H fun vs H1 => tr H1 ∧ sp vs H1 Q C8.E0
theorem pe_callV {X : Cx} {k j i : Nat} {g : Addr} {tr : Hp → Prop} {sp : Sp} {x : Str} {p pos : Pos} {e : Expr} {es : List Expr} {t : TA} (c : CV X.prog X.w X.K X.mg X.base k g tr sp) (room : Room j X.A) (hk : k ≤ j) (hN : X.N[i]? = some x) (hv : Vis X.env.scope x) (ha : PA X (e :: es) t)
    (hd : (x == ("__debug__" : Str)) = false := by decide) (hcd : (x == ("__classdict__" : Str)) = false := by decide)
    (he : starEach (e :: es) X.env = (false, eval e X.env) :: starEach es X.env := by rfl) (hpl : (backTo pos (starEach es X.env)).any (·.1) = false := by rfl) : PE X (.Call (.Name x p) (e :: es) [] pos) (tCallV i g tr sp t) := by
  constructor
  rintro pins s σ H Q I ⟨hs, ht, want⟩
  rcases c with ⟨fd, ps, F, kept, bd⟩ | ⟨F, ps, fr, ws, nsp, N, hsp, B, htr⟩
  · have F' : FnOk X.prog X.w X.K X.mg X.base (fun _ _ _ _ _ _ => False) k g fd ps (fun vs H Q E => tr H ∧ sp vs H Q E) := F.imp fun _ _ _ _ q => q.2
    refine (pe_callL (i := i) (dvs := []) (E := fun _ _ _ => False) F' (room.mono hk) hN hv kept bd .nil (fun _ _ _ _ _ _ _ z => z.elim) ha hd hcd he hpl).run pins s σ H Q I ⟨hs, ?_⟩
    have e0 : (fun (vs : List V) (H1 : Hp) => tr H1 ∧ sp (vs ++ []) H1 Q fun _ _ _ => False) = fun vs H1 => tr H1 ∧ sp vs H1 Q C8.E0 := by funext vs H1; rw [List.append_nil]; rfl
    show t σ H fun vs H1 => tr H1 ∧ sp (vs ++ []) H1 Q fun _ _ _ => False
    rw [e0]; exact want
  · refine wpAny_Call_Name_kw (thn ((pe_var (pos := p) hN hv hd hcd).run pins s σ H (fun v H1 => v = .ref g ∧ H1 = H) I ⟨.ref g, hs, rfl, rfl⟩) fun u s1 ⟨v, H1, I1, r1, ev, eH⟩ => ?_)
    subst ev
    rw [eH] at I1
    obtain rfl : u = Value.ref g := r1
    refine PySem.W.callWith_F (first := []) (fnAt_of I1 (htr H ht).1) (thn (ha.run pos pins s1 σ H _ I1 want) fun us s2 ⟨vs, H2, I2, r, h1, q⟩ => ⟨fnAt_of I2 (htr H2 h1).1, ?_⟩) he hpl
    refine wpAny_call (codeAny_mono (N.run X.A X.stack s2 H2 us vs ws Q C8.E0 (room.mono hk) I2.env0 (htr H2 h1).1 (htr H2 h1).2 (B.at_ I2.env0.bs) r (hsp vs H2 Q h1 q)) fun r t' got => ?_)
    match r, got with
    | .ok (.ret u), got => exact I2.after got
theorem calC {P : Program} {w : World} {K : PySem.W.Frag} {mg : Str → Option Value} {base : Heap} {x : Str} {st : Stmt} {f : Addr} {fd : FuncData} {N ps : List Str} {ds : List Value} {dvs : List V} {k : Nat} {sp : Sp} {cdv : Value} (F : C8.Def K mg x st f fd) (hc : fd.code = cdv) (b : Binds K fd ps ds) (d : Vals dvs ds) (S : FnScope N ps (C8.fnScope st)) (len : ∀ vs H Q E, sp vs H Q E → vs.length = ps.length)
    (hbody : ∀ (A : Around) (outer : List Env) (s : Shared) (H : Hp) (vs : List V) (Q : VK) (E : XK), Room k (A.deeper (envOfC x (C8.fnScope st) s.heap.objs.size f cdv)) → sp vs H Q E →
      ∃ t, PSs (cxOf C8.CX0 P w K mg base N x (C8.fnScope st) f cdv A outer s H E).nox (C8.fnBody st) t ∧ t { nx := fun _ H' => Q .non H', rt := Q } (start N vs) H) : C8.Cal P w K mg base (k + 1) x sp dvs := by
  refine ⟨f, fd, ps, ds, ?_, F.mgf, F.kp, b, d⟩
  obtain ⟨oc, od, dV, kV, doc, pm, an, cdv', ct, osl, rfl, lk, hcd⟩ := F.fn.ex
  obtain rfl : cdv' = cdv := hc
  refine fn_of lk hcd S len fun A outer s H vs Q E hr hsp => ?_
  obtain ⟨t, h, q⟩ := hbody A outer s H vs Q E hr hsp
  exact ⟨t, h.nox, q⟩
end LX
set_option maxHeartbeats 2000000
namespace LX
open PySem PySem.Spec PyProof.Rows L2 C8 SX NdefX
def takenN (ok : Nat → Bool) (n : Nat) : List Nat := (List.range n).filter ok
theorem takenN_yes {ok : Nat → Bool} {n : Nat} (h : ok n = true) : takenN ok (n + 1) = takenN ok n ++ [n] := by
  unfold takenN; rw [List.range_succ, List.filter_append, List.filter_cons_of_pos h]; rfl
theorem takenN_no {ok : Nat → Bool} {n : Nat} (h : ok n = false) : takenN ok (n + 1) = takenN ok n := by
  unfold takenN; rw [List.range_succ, List.filter_append, List.filter_cons_of_neg (by rw [h]; exact Bool.false_ne_true)]; exact List.append_nil _
theorem takenN_le {ok : Nat → Bool} {n : Nat} : (takenN ok n).length ≤ n := by
  unfold takenN
  exact Nat.le_trans (List.length_filter_le _ _) (by rw [List.length_range]; exact Nat.le_refl _)
theorem lc_keepF {Rel : Hp → Hp → Prop} {J : It} {n : Nat} {G : Hp → Prop} {Y : Nat → Hp → V → Hp → Prop} {H1 : Hp} (kp : Keep Rel H1) (w : Walk J n G Y) {g : TG} {tt : TT} {te : TE} {vs : List Nat} {σ : L2.St} {D : Addr} {Qd : Hp → Prop} (hD : H1 D = none) (hn : n < sizeLine)
    (ok : Nat → Bool) (Good : Nat → V → Hp → Prop) (hG : ∀ H, Rel H1 H → G H)
    (st : ∀ i y H H', Rel H1 H → Rel H H' → Good i y H → Good i y H') (pt : ∀ i y H acc o, Rel H1 H → H D = some (.lst acc) → Good i y H → Good i y (upd H D o))
    (hs : ∀ i x H H' acc (N : Hp → Prop) (R : V → Hp → Prop), i < n → Rel H1 H → H D = some (.lst acc) → Y i H x H' → (ok i = true → ∀ y H4, Rel H H4 → Good i y H4 → R y H4) → (ok i = false → ∀ H4, Rel H H4 → N H4) →
      g x (wipe σ vs) H' fun σ2 H2 => wipe σ2 vs = wipe σ vs ∧ tt σ2 H2 fun b H3 => if b = true then te σ2 H3 R else N H3)
    (hd : ∀ ys H, ys.length = (takenN ok n).length → (∀ (j k : Nat) y, (takenN ok n)[j]? = some k → ys[j]? = some y → Good k y H) → Rel H1 H → H D = some (.lst ys) → Qd H) :
    ∃ W : Nat → Nat → Hp → Prop, (∃ m, W 0 m (upd H1 D (.lst []))) ∧ ∀ i m H, W i m H →
      (J.stop i H ∧ Qd H) ∨ (J.go i H ∧ ∃ Nx : Hp → Prop, (∀ H', Nx H' → ∃ m', m' < m ∧ W (i + 1) m' H') ∧ ∀ x H', J.yld i H x H' → g x (wipe σ vs) H' fun σ2 H2 => wipe σ2 vs = wipe σ vs ∧ tt σ2 H2 fun b H3 =>
        if b = true then te σ2 H3 fun y H4 => ∃ acc, H4 D = some (.lst acc) ∧ acc.length < sizeLine ∧ Nx (upd H4 D (.lst (acc ++ [y]))) else Nx H3) := by
  refine lc_it w (fun i H => ∃ acc, acc.length = (takenN ok i).length ∧ H D = some (.lst acc) ∧ Rel H1 H ∧ ∀ (j k : Nat) y, (takenN ok i)[j]? = some k → acc[j]? = some y → Good k y H) ⟨[], rfl, upd_same, kp.put _ _ _ kp.refl hD, fun j k y _ e => by simp at e⟩
    (fun i H _ ⟨_, _, _, r, _⟩ => hG H r) (fun i x H H' hi ⟨acc, hl, hDa, r, hg⟩ hy => ?_) (fun H ⟨acc, hl, hDa, r, hg⟩ => hd acc H hl hg r hDa)
  have hle := takenN_le (ok := ok) (n := i)
  refine hs i x H H' acc _ _ hi r hDa hy (fun ho y H4 r4 gy => ?_) (fun ho H4 r4 => ?_)
  · have hD4 := kp.get _ _ _ _ r4 hD r hDa
    have r5 := kp.trans _ _ r r4
    refine ⟨acc, hD4, by omega, acc ++ [y], by rw [takenN_yes ho]; simp [hl], upd_same, kp.put _ _ _ r5 hD, fun j k z ek e => ?_⟩
    rw [takenN_yes ho] at ek
    rcases Nat.lt_or_ge j acc.length with h | h
    · rw [List.getElem?_append_left h] at e
      rw [List.getElem?_append_left (by omega)] at ek
      exact pt _ _ _ _ _ r5 hD4 (st _ _ _ _ r r4 (hg j k z ek e))
    · rw [List.getElem?_append_right h] at e
      rw [List.getElem?_append_right (by omega)] at ek
      have hj : j - acc.length = 0 := by
        rcases Nat.lt_or_ge (j - acc.length) 1 with z | z
        · omega
        · rw [List.getElem?_eq_none (by simpa using z)] at e; cases e
      have hj2 : j - (takenN ok i).length = 0 := by omega
      rw [hj] at e; rw [hj2] at ek
      obtain rfl : y = z := Option.some.inj e
      obtain rfl : i = k := Option.some.inj ek
      exact pt _ _ _ _ _ r5 hD4 gy
  · have hD4 := kp.get _ _ _ _ r4 hD r hDa
    exact ⟨acc, by rw [takenN_no ho]; exact hl, hD4, kp.trans _ _ r r4, fun j k y ek e => by rw [takenN_no ho] at ek; exact st _ _ _ _ r r4 (hg j k y ek e)⟩
end LX
set_option maxHeartbeats 2000000
namespace LX
open PySem PySem.Spec PyProof.Rows L2 C8 SX
theorem S_contains (sg : List Nat) (c : Nat) : (S sg).cps.contains c = decide (c ∈ sg) := by
  rw [Bool.eq_iff_iff, decide_eq_true_eq, ← Array.contains_toList]
  simp [S]
theorem S_empty {l : List Nat} : S l = S [] ↔ l = [] := by
  constructor
  · intro h
    have : (S l).cps.toList = (S []).cps.toList := congrArg (fun z : Str => z.cps.toList) h
    simpa [S] using this
  · rintro rfl; rfl
theorem takeWhile_all {p : Nat → Bool} : ∀ {l : List Nat}, (∀ c ∈ l, p c = true) → l.takeWhile p = l
  | [], _ => rfl
  | c :: l, h => by rw [List.takeWhile_cons, if_pos (h c List.mem_cons_self), takeWhile_all fun d hd => h d (List.mem_cons_of_mem _ hd)]
theorem takeWhile_short {p : Nat → Bool} : ∀ {l : List Nat}, ¬ (∀ c ∈ l, p c = true) → (l.takeWhile p).length < l.length ∧ ∃ d r, l.drop (l.takeWhile p).length = d :: r ∧ p d = false
  | [], h => absurd (fun _ h => nomatch h) h
  | c :: l, h => by
    by_cases hc : p c = true
    · have h' : ¬ ∀ c ∈ l, p c = true := fun q => h fun d hd => by
        rcases List.mem_cons.mp hd with rfl | z
        · exact hc
        · exact q d z
      obtain ⟨i1, d, r, i2, i3⟩ := takeWhile_short h'
      rw [List.takeWhile_cons, if_pos hc]
      exact ⟨Nat.succ_lt_succ i1, d, r, i2, i3⟩
    · rw [List.takeWhile_cons, if_neg hc]
      exact ⟨Nat.succ_pos _, c, l, rfl, by simpa using hc⟩
theorem strip_nil {l sg : List Nat} : Txt.stripChars (S l) (S sg) = S [] ↔ ∀ c ∈ l, c ∈ sg := by
  unfold Txt.stripChars Txt.stripBy stripSame stripped stripLo stripHi
  have eg : (S sg).cps.contains = fun c => decide (c ∈ sg) := funext fun c => S_contains sg c
  have el : (S l).cps.toList = l := rfl
  have en : (S l).length = l.length := S_len l
  rw [eg, if_pos rfl, if_pos rfl, el, en]
  generalize hp : (fun c => decide (c ∈ sg)) = p
  have hpc : ∀ c, p c = true ↔ c ∈ sg := fun c => by rw [← hp]; exact decide_eq_true_iff
  by_cases h : ∀ c ∈ l, p c = true
  · refine ⟨fun _ c hc => (hpc c).mp (h c hc), fun _ => ?_⟩
    rw [takeWhile_all h, List.drop_length, List.reverse_nil, List.takeWhile_nil, List.length_nil, Nat.sub_zero]
    by_cases e : l = []
    · subst e; rfl
    · have : l.length ≠ 0 := fun z => e (List.length_eq_zero_iff.mp z)
      rw [if_neg (by simpa using this)]
      show (⟨(S l).cps.extract l.length l.length⟩ : Str) = S []
      simp [S]
  · obtain ⟨i1, d, r, i2, i3⟩ := takeWhile_short h
    refine ⟨fun e => absurd e ?_, fun q => absurd (fun c hc => (hpc c).mpr (q c hc)) h⟩
    rw [i2]
    have hr : ¬ ∀ c ∈ (d :: r).reverse, p c = true := fun q => by have := q d (by simp); rw [i3] at this; cases this
    have j1 := (takeWhile_short hr).1
    have hlen : (d :: r).length = l.length - (l.takeWhile p).length := by rw [← i2, List.length_drop]
    rw [List.length_reverse] at j1
    by_cases same : ((l.takeWhile p).length == 0 && l.length - ((d :: r).reverse.takeWhile p).length == l.length) = true
    · rw [if_pos same]
      intro e
      have := S_empty.mp e
      subst this
      exact absurd i1 (by simp)
    · rw [if_neg same]
      intro e
      have e2 : ((S l).cps.extract (l.takeWhile p).length (l.length - ((d :: r).reverse.takeWhile p).length)).size = 0 := by
        have : (Builtin.Str.strSub (S l) (l.takeWhile p).length (l.length - ((d :: r).reverse.takeWhile p).length)).cps = (S []).cps := by rw [e]
        rw [show (S l).cps.extract (l.takeWhile p).length (l.length - ((d :: r).reverse.takeWhile p).length) = (S []).cps from this]; rfl
      rw [Array.size_extract] at e2
      have e3 : (S l).cps.size = l.length := by simp [S]
      rw [e3] at e2
      omega
theorem strip_eq {l sg : List Nat} : decide (Txt.stripChars (S l) (S sg) = S []) = decide (∀ c ∈ l, c ∈ sg) := decide_eq_decide.mpr strip_nil
def az : List Nat := (List.range 26).map (· + 97)
theorem az_mem {c : Nat} : c ∈ az ↔ 97 ≤ c ∧ c ≤ 122 := by
  unfold az
  rw [List.mem_map]
  constructor
  · rintro ⟨i, hi, rfl⟩
    have := List.mem_range.mp hi
    omega
  · rintro ⟨h1, h2⟩
    exact ⟨c - 97, List.mem_range.mpr (by omega), by omega⟩
theorem s_az : (Str.ofString "abcdefghijklmnopqrstuvwxyz") = S az := by decide +kernel
end LX
set_option maxHeartbeats 2000000
namespace LX
open PySem PySem.Spec PyProof.Rows L2 C8 SX
def outD : Expr → Scope
  | .DictComp _ _ _ s _ => s
  | _ => { kind := .function, names := [], isGenerator := false, isCoroutine := false }
end LX
set_option maxHeartbeats 1000000
namespace Toy
open PySem L2 C8 SX LX
local macro_rules | `(tactic| walk_at "c") => `(tactic| refine And.intro (by first | (show (0 : Int) < _; omega) | exact Or.inr ⟨by decide, by decide⟩ | exact Or.inl ⟨by decide, by decide⟩ | (exact ⟨by omega, by omega⟩)) ?_)
local macro_rules | `(tactic| walk_at "s1") => `(tactic| first | refine ⟨_, rfl, ?_⟩ | refine ⟨_, _, rfl, rfl, ?_⟩ | refine .inl ⟨_, rfl, ?_⟩ | walk_at "c")
local macro_rules | `(tactic| walk_at "s") => `(tactic| repeat (walk_at "s1"))
section
variable {P : Program} {w : World} {K : PySem.W.Frag} {mg : Str → Option Value} {base : Heap}
abbrev s_isseq : Stmt := top 13
abbrev n_isseq : List Str := ["value"]
theorem sc_isseq : FnScope n_isseq ["value"] (fnScope s_isseq) := fnScope_by (by decide +kernel)
def spIsSeq : Sp := fun vs H Q _ => ∃ (p : Addr) (b : Bool) (xs : List V), vs = [.ref p] ∧ H p = some (seqB b xs) ∧ ∀ H', Same H H' → Q (.bl true) H'
theorem ok_isseq (T : BT mg) {f : Addr} {fd : FuncData} (F : Def K mg "is_sequence" s_isseq f fd) (b : Binds K fd ["value"] []) : Cal P w K mg base 1 "is_sequence" spIsSeq [] := by
  refine cal0 F b .nil sc_isseq (fun vs H Q E h => ?_) (fun cdv A outer s H vs Q E hr h => ?_)
  · obtain ⟨p, b, xs, rfl, _⟩ := h; rfl
  · obtain ⟨p, b, xs, rfl, hp, k⟩ := h
    refine ⟨_, (pss_one (ps_ret (pe_callB (isiTK K) (by rfl) T.m_isinstance PyProof.Rows.boot_isinstance (pa_cons (pv 0) (pa_cons (pe_tup (pa_cons (pe_bltn (v := .ty "list") (by rfl) T.m_list PyProof.Rows.boot_list rfl) (pa_cons (pe_bltn (v := .ty "tuple") (by rfl) T.m_tuple PyProof.Rows.boot_tuple rfl) pa_nil))) pa_nil))))
      ), ?_⟩
    walk_at "s"
    refine ⟨by decide, fun t ht => ?_⟩
    have hp2 := (sm_new (o := .tup [.ty "list", .ty "tuple"]) ht) _ _ hp
    cases b
    · exact ⟨_, t, _, _, _, true, rfl, upd_same, .cons (.ty _) (.cons (.ty _) .nil), .base (.tup hp2), kitAny_cons (b := false) (kit_ty (by decide +kernel)) (fun _ => kitAny_cons (b := true) (kit_ty (by decide +kernel)) (fun h => nomatch h) (fun _ => rfl)) (fun h => nomatch h), k _ (sm_new ht)⟩
    · exact ⟨_, t, _, _, _, true, rfl, upd_same, .cons (.ty _) (.cons (.ty _) .nil), .base (.lst hp2), kitAny_cons (b := true) (kit_ty (by decide +kernel)) (fun h => nomatch h) (fun _ => rfl), k _ (sm_new ht)⟩
abbrev s_isrow : Stmt := top 16
abbrev n_isrow : List Str := ["value", "signs"]
theorem sc_isrow : FnScope n_isrow ["value", "signs"] (fnScope s_isrow) := fnScope_by (by decide +kernel)
instance (sg l : List Nat) : Decidable (Ov sg l) := by unfold Ov; infer_instance
def spIsRow : Sp := fun vs H Q _ => ∃ (sg l : List Nat), vs = [.str (S l), .str (S sg)] ∧ l.length ≤ 1000 ∧ Q (.bl (decide (Ov sg l))) H
theorem ok_isrow (T : BT mg) {f : Addr} {fd : FuncData} (F : Def K mg "is_row" s_isrow f fd) (b : Binds K fd ["value", "signs"] []) : Cal P w K mg base 1 "is_row" spIsRow [] := by
  refine cal0 F b .nil sc_isrow (fun vs H Q E h => ?_) (fun cdv A outer s H vs Q E hr h => ?_)
  · obtain ⟨sg, l, rfl, _⟩ := h; rfl
  · obtain ⟨sg, l, rfl, hl, k⟩ := h
    refine ⟨_, (pss_one (ps_ret (pe_and (pe_callB (isiK K) (by rfl) T.m_isinstance PyProof.Rows.boot_isinstance (pa_cons (pv 0) (pa_cons (pe_bltn (v := .ty "str") (by rfl) T.m_str PyProof.Rows.boot_str rfl) pa_nil))) (pe_one (pe_cmpR op_eq (pe_bm PySem.F.plainAttrs_str PySem.F.slot_str_strip PySem.F.type_str_strip mt_stripChars (pv 0) (pa_cons (pv 1) pa_nil)) pe_str (nomark _)))))
      ), ?_⟩
    walk_at "s"
    refine ⟨_, _, _, _, true, rfl, .ty _, .base (.str _), kit_ty (by decide +kernel), true, rfl, ?_⟩
    refine iteT ?_
    refine ⟨_, rfl, rfl, _, rfl, S l, S sg, rfl, rfl, by rw [S_len]; exact sz hl (by decide), rfl, ?_⟩
    have e : V.bl (decide (V.str (Txt.stripChars (S l) (S sg)) = V.str (Str.ofString ""))) = V.bl (decide (Ov sg l)) := by
      rw [s_nil]
      refine congrArg V.bl (decide_eq_decide.mpr ?_)
      rw [V.str.injEq]
      exact strip_nil
    show Q (V.bl (decide (V.str (Txt.stripChars (S l) (S sg)) = V.str (Str.ofString "")))) H
    rw [e]
    exact k
abbrev s_isletters : Stmt := top 14
abbrev n_isletters : List Str := ["value"]
theorem sc_isletters : FnScope n_isletters ["value"] (fnScope s_isletters) := fnScope_by (by decide +kernel)
theorem ov_az {l : List Nat} : Ov az l ↔ ∀ c ∈ l, 97 ≤ c ∧ c ≤ 122 := ⟨fun h c hc => az_mem.mp (h c hc), fun h c hc => az_mem.mpr (h c hc)⟩
def spIsLetters : Sp := fun vs H Q _ => ∃ (l : List Nat), vs = [.str (S l)] ∧ l.length ≤ 1000 ∧ Q (.bl (decide (Ov az l))) H
theorem ok_isletters (T : BT mg) {tz : Tok} (mgZ : mg "_LETTERS" = some (.str (S az) tz)) (c_isrow : Cal P w K mg base 1 "is_row" spIsRow []) {f : Addr} {fd : FuncData} (F : Def K mg "is_letters" s_isletters f fd) (b : Binds K fd ["value"] []) : Cal P w K mg base 2 "is_letters" spIsLetters [] := by
  refine cal0 F b .nil sc_isletters (fun vs H Q E h => ?_) (fun cdv A outer s H vs Q E hr h => ?_)
  · obtain ⟨l, rfl, _⟩ := h; rfl
  · obtain ⟨l, rfl, hl, k⟩ := h
    refine ⟨_, (pss_one (ps_ret (pe_c c_isrow hr (by first | decide | omega) (by rfl) (pa_cons (pv 0) (pa_cons (pe_glob (v := .str (S az)) (by rfl) mgZ ⟨_, rfl⟩) pa_nil))))
      ), ?_⟩
    exact ⟨_, rfl, az, l, rfl, hl, k⟩
abbrev s_issigns : Stmt := top 15
abbrev n_issigns : List Str := ["value", "one", "other"]
theorem sc_issigns : FnScope n_issigns ["value"] (fnScope s_issigns) := fnScope_by (by decide +kernel)
def spIsSigns : Sp := fun vs H Q _ => ∃ (sg : List Nat), vs = [.str (S sg)] ∧ Sg sg ∧ ∀ H', Same H H' → Q (.bl true) H'
theorem sg_asc {sg : List Nat} (h : Sg sg) (i c d : Nat) (e1 : sg[i]? = some c) (e2 : sg[i + 1]? = some d) : c < d := by
  obtain ⟨a1, a2⟩ := List.getElem?_eq_some_iff.mp e1
  obtain ⟨b1, b2⟩ := List.getElem?_eq_some_iff.mp e2
  have := List.pairwise_iff_getElem.mp h.1 i (i + 1) a1 b1 (Nat.lt_succ_self i)
  rw [a2, b2] at this; exact this
theorem ok_issigns (T : BT mg) (c_isletters : Cal P w K mg base 2 "is_letters" spIsLetters []) {f : Addr} {fd : FuncData} (F : Def K mg "is_signs" s_issigns f fd) (b : Binds K fd ["value"] []) : Cal P w K mg base 3 "is_signs" spIsSigns [] := by
  refine cal0 F b .nil sc_issigns (fun vs H Q E h => ?_) (fun cdv A outer s H vs Q E hr h => ?_)
  · obtain ⟨sg, rfl, _⟩ := h; rfl
  · obtain ⟨sg, rfl, hm, k⟩ := h
    have hlen : 1 ≤ sg.length ∧ sg.length ≤ 3 := ⟨hm.2.1, hm.2.2.1⟩
    refine ⟨_, (pss_cons (ps_if (PW.pt (pw_or (pt_not (pt_val (pe_c c_isletters hr (by first | decide | omega) (by rfl) (pa_cons (pv 0) pa_nil)))) (pw_or (pt_cmpR op_lt (pe_callB call_len_str (by rfl) T.m_len PySem.boot_len (pa_cons (pv 0) pa_nil)) pe_int (nomark _)) (pw_or1 (pt_cmpR op_gt (pe_callB call_len_str (by rfl) T.m_len PySem.boot_len (pa_cons (pv 0) pa_nil)) pe_int (nomark _)))))) 
        (pss_one (ps_ret pe_bl)
        )
       pss_nil)
      (pss_one (ps_ret (pe_callB (cr_all rfl) (by rfl) T.m_all PyProof.Rows.boot_all (pa_cons (pe_lc (own := [("one", 1), ("other", 2)]) rfl sc_issigns.nd (pi_zipX (by rfl) T.m_zip (pa_cons (pv 0) (pa_cons (pe_slice sl_txt (pv 0) (po_some pe_int) po_none) pa_nil))) (blkOk_by (N := n_issigns) (sc := fnScope s_issigns) (by decide +kernel)) (fun _ _ _ _ _ => (tupK K 2 (pgs_cons (pg_name (i := 1) sc_issigns.nd rfl (.inl rfl)) (pgs_cons (pg_name (i := 2) sc_issigns.nd rfl (.inl rfl)) pgs_nil)))) (fun _ _ _ _ _ => pts_nil) (fun _ _ _ _ _ => (pe_cmpR op_lt_str (pv 1) (pv 2) (nomark _)))) pa_nil)))
      )), ?_⟩
    refine ⟨_, rfl, sg, rfl, by omega, ?_⟩
    rw [decide_eq_true (ov_az.mpr hm.2.2.2)]
    have hsl : (S sg).length ≤ sizeLine := by rw [S_len]; exact Nat.le_trans hlen.2 (by decide)
    walk_at "s"
    refine ⟨hsl, ?_⟩
    walk_at "s"
    refine iteN (by rw [S_len]; exact decide_eq_false (by omega)) ?_
    walk_at "s"
    refine ⟨hsl, ?_⟩
    walk_at "s"
    refine iteN (by rw [S_len]; exact decide_eq_false (by omega)) ?_
    walk_at "s"
    refine ⟨hsl, _, _, .txt (S sg), .txt (S (sg.drop 1)), rfl, rfl, slice_from (by decide), trivial, trivial, fun D hD => ?_⟩
    refine lc_keep (n := min (sg.map fun c => V.str (S [c])).length ((sg.drop 1).map fun c => V.str (S [c])).length) keep_same walk_zipX hD (by rw [List.length_map]; exact Nat.lt_of_le_of_lt (Nat.min_le_left _ _) (small1000 (Nat.le_trans hlen.2 (by decide)))) (fun _ y => y = .bl true) (fun _ _ => ⟨rfl, rfl⟩) (fun i x H2 H3 R hii r1 hy hR => ?_) (fun ys H2 hly hg r1 hDs => ?_)
    · obtain ⟨t, x1, x2, rfl, ht, rfl, e1, e2⟩ := hy
      have e1 : (sg.map fun c => V.str (S [c]))[i]? = some x1 := e1
      have e2 : ((sg.drop 1).map fun c => V.str (S [c]))[i]? = some x2 := e2
      rw [List.getElem?_map] at e1 e2
      rw [List.getElem?_drop] at e2
      cases q1 : sg[i]? with
      | none => rw [q1] at e1; cases e1
      | some c =>
        cases q2 : sg[1 + i]? with
        | none => rw [q2] at e2; cases e2
        | some d =>
          rw [q1] at e1; rw [q2] at e2
          cases e1; cases e2
          have hcd := sg_asc hm i c d q1 (by rw [Nat.add_comm]; exact q2)
          refine ⟨t, _, rfl, .inl (.inl upd_same), rfl, _, _, rfl, _, _, rfl, rfl, rfl, ?_⟩
          walk_at "s"
          refine hR _ _ (sm_new ht) (congrArg V.bl ?_)
          show decide (([c] : List Nat) < [d]) = true
          rw [decide_eq_true_eq, List.cons_lt_cons_iff]
          exact .inl hcd
    · refine ⟨D, List.replicate ys.length true, rfl, SqL.of (by rw [← all_true hg]; exact hDs), ?_⟩
      rw [rep_all]
      exact k H2 r1
abbrev s_isname : Stmt := top 17
abbrev n_isname : List Str := ["value"]
theorem sc_isname : FnScope n_isname ["value"] (fnScope s_isname) := fnScope_by (by decide +kernel)
def no10 : List (List Nat) := [[98, 97, 99, 107], [105, 115], [110, 111, 116], [97, 110, 100], [111, 114], [105, 102], [116, 104, 101, 110], [102, 111, 114], [97, 108, 108], [115, 111, 109, 101]]
def Name (m : List Nat) : Prop := 2 ≤ m.length ∧ m.length ≤ 6 ∧ (∀ c ∈ m, 97 ≤ c ∧ c ≤ 122) ∧ m ∉ no10
instance (m : List Nat) : Decidable (Name m) := by unfold Name; infer_instance
def spIsName : Sp := fun vs H Q _ => ∃ (m : List Nat), vs = [.str (S m)] ∧ m.length ≤ 16000000 ∧ Q (.bl (decide (Name m))) H
theorem ok_isname (T : BT mg) {NN : Addr} (mgN : mg "_NO_NAMES" = some (.ref NN)) (hN : ∀ H, SqT K H NN (txs no10)) (c_isletters : Cal P w K mg base 2 "is_letters" spIsLetters []) {f : Addr} {fd : FuncData} (F : Def K mg "is_name" s_isname f fd) (b : Binds K fd ["value"] []) : Cal P w K mg base 3 "is_name" spIsName [] := by
  refine cal0 F b .nil sc_isname (fun vs H Q E h => ?_) (fun cdv A outer s H vs Q E hr h => ?_)
  · obtain ⟨m, rfl, _⟩ := h; rfl
  · obtain ⟨m, rfl, hm, k⟩ := h
    refine ⟨_, (pss_one (ps_ret (pe_and (pe_callB (isiK K) (by rfl) T.m_isinstance PyProof.Rows.boot_isinstance (pa_cons (pv 0) (pa_cons (pe_bltn (v := .ty "str") (by rfl) T.m_str PyProof.Rows.boot_str rfl) pa_nil))) (pe_and (pe_chain op_le op_le pe_int (pe_callB call_len_str (by rfl) T.m_len PySem.boot_len (pa_cons (pv 0) pa_nil)) pe_int) (pe_and (pe_c c_isletters hr (by first | decide | omega) (by rfl) (pa_cons (pv 0) pa_nil)) (pe_one (pe_cmpR (notInK K) (pv 0) (pe_glob (v := .ref NN) (by rfl) mgN rfl) rfl))))))
      ), ?_⟩
    have hsl : (S m).length ≤ sizeLine := by rw [S_len]; exact Nat.le_trans hm (by decide)
    walk_at "s"
    refine ⟨_, _, _, _, true, rfl, .ty _, .base (.str _), kit_ty (by decide +kernel), true, rfl, ?_⟩
    refine iteT ?_
    have fin : ∀ {b : Bool}, (b = true ↔ Name m) → Q (.bl b) H := fun {b} h => by
      have : b = decide (Name m) := by
        rw [Bool.eq_iff_iff, decide_eq_true_eq]; exact h
      rw [this]; exact k
    refine ⟨_, rfl, S m, rfl, hsl, _, _, rfl, rfl, _, rfl, ?_⟩
    rw [S_len]
    by_cases h2 : 2 ≤ m.length
    · refine iteB (decide_eq_true (by omega)) ?_
      refine ⟨_, _, rfl, rfl, ?_⟩
      by_cases h6 : m.length ≤ 6
      · refine ⟨_, rfl, iteB (decide_eq_true (by omega)) ?_⟩
        refine ⟨_, rfl, m, rfl, by omega, _, rfl, ?_⟩
        by_cases ho : Ov az m
        · refine iteB (decide_eq_true ho) ?_
          refine ⟨_, rfl, NN, txs no10, rfl, .inr (hN H), rfl, flat_txs _, ?_⟩
          rw [inV_txs]
          refine fin ?_
          rw [if_pos rfl, Bool.not_eq_true', decide_eq_false_iff_not]
          exact ⟨fun h => ⟨h2, h6, ov_az.mp ho, h⟩, fun h => h.2.2.2⟩
        · refine iteN (decide_eq_false ho) ?_
          exact fin ⟨fun h => (nomatch h), fun h => absurd (ov_az.mpr h.2.2.1) ho⟩
      · refine ⟨_, rfl, iteN (decide_eq_false (by omega)) ?_⟩
        exact fin ⟨fun h => (nomatch h), fun h => absurd h.2.1 h6⟩
    · refine iteN (decide_eq_false (by omega)) ⟨_, rfl, iteN rfl ?_⟩
      exact fin ⟨fun h => (nomatch h), fun h => absurd h.1 h2⟩
theorem all_of {b : Bool} {xs : List V} {p : Addr} {K : PySem.W.Frag} {H : Hp} (h : H p = some (seqB b xs)) {H' : Hp} (s : Same H H') : SqB K b H' p xs := SqB.of (s _ _ h)
abbrev s_ismarks : Stmt := top 27
abbrev n_ismarks : List Str := ["value", "mark"]
theorem sc_ismarks : FnScope n_ismarks ["value"] (fnScope s_ismarks) := fnScope_by (by decide +kernel)
def spIsMarks : Sp := fun vs H Q _ => ∃ (p : Addr) (b : Bool) (ms : List (List Nat)), vs = [.ref p] ∧ H p = some (seqB b (txs ms)) ∧ 1 ≤ ms.length ∧ ms.length < 60 ∧ ms.Nodup ∧ (∀ m ∈ ms, Name m) ∧ ∀ H', Same H H' → Q (.bl true) H'
theorem ok_ismarks (T : BT mg) (c_isseq : Cal P w K mg base 1 "is_sequence" spIsSeq []) (c_isname : Cal P w K mg base 3 "is_name" spIsName []) {f : Addr} {fd : FuncData} (F : Def K mg "_is_marks" s_ismarks f fd) (b : Binds K fd ["value"] []) : Cal P w K mg base 4 "_is_marks" spIsMarks [] := by
  refine cal0 F b .nil sc_ismarks (fun vs H Q E h => ?_) (fun cdv A outer s H vs Q E hr h => ?_)
  · obtain ⟨p, b, ms, rfl, _⟩ := h; rfl
  · obtain ⟨p, b, ms, rfl, hp, h1, h60, nd, hms, k⟩ := h
    refine ⟨_, (pss_cons (ps_if (PW.pt (pw_or (pt_not (pt_val (pe_c c_isseq hr (by first | decide | omega) (by rfl) (pa_cons (pv 0) pa_nil)))) (pw_or (pt_cmpR op_eq (pe_callB (lenK K) (by rfl) T.m_len PySem.boot_len (pa_cons (pv 0) pa_nil)) pe_int (nomark _)) (pw_or1 (pt_not (pt_val (pe_callB (cr_all rfl) (by rfl) T.m_all PyProof.Rows.boot_all (pa_cons (pe_lc (own := [("mark", 1)]) rfl sc_ismarks.nd (pi_seq (pv 0)) (blkOk_by (N := n_ismarks) (sc := fnScope s_ismarks) (by decide +kernel)) (fun _ _ _ _ _ => (pg_name (i := 1) sc_ismarks.nd rfl (.inl rfl))) (fun _ _ _ _ _ => pts_nil) (fun _ _ _ _ _ => (pe_c c_isname hr (by first | decide | omega) (by rfl) (pa_cons (pv 1) pa_nil)))) pa_nil)))))))) 
        (pss_one (ps_ret pe_bl)
        )
       pss_nil)
      (pss_one (ps_ret (pe_cmpR op_eq (pe_lenSetT rfl (by rfl) T.m_len (by rfl) T.m_set (pv 0)) (pe_callB (lenK K) (by rfl) T.m_len PySem.boot_len (pa_cons (pv 0) pa_nil)) (nomark _)))
      )), ?_⟩
    refine ⟨_, rfl, p, b, txs ms, rfl, hp, fun H1 s1 => ?_⟩
    refine ⟨true, rfl, ?_⟩
    refine iteN rfl ?_
    refine ⟨_, rfl, p, _, rfl, (all_of hp s1).or, rfl, _, rfl, ?_⟩
    refine iteN (by rw [txs_len]; exact decide_eq_false (by show ¬ V.int (ms.length : Int) = V.int 0; intro h; have := V.int.inj h; omega)) ?_
    have hB1 : SqB K b H1 p (txs ms) := all_of hp s1
    refine ⟨_, rfl, p, b, txs ms, rfl, hB1, fun D hD => lc_keep keep_same (walk_seq (K := K) (b := b) (a := p) (xs := txs ms)) hD (by rw [txs_len]; exact small1000 (by omega)) (fun _ y => y = .bl true) (fun H2 r => hB1.same r) (fun i x H2 H3 R hii r1 hy hR => ?_) (fun ys H2 hly hg r1 hDs => ?_)⟩
    · obtain ⟨rfl, e⟩ := hy
      obtain ⟨m, hm, rfl⟩ := txs_get e
      refine ⟨rfl, ?_⟩
      have hnm := hms m (List.mem_of_getElem? hm)
      refine ⟨_, rfl, m, rfl, by have := hnm.2.1; omega, ?_⟩
      rw [decide_eq_true hnm]
      exact hR _ _ (Same.refl _) rfl
    · refine ⟨D, List.replicate ys.length true, rfl, SqL.of (by rw [← all_true hg]; exact hDs), ?_⟩
      rw [rep_all]
      have hB2 : SqB K b H2 p (txs ms) := hB1.same r1
      refine ⟨_, rfl, ?_⟩
      refine ⟨_, rfl, p, ms, rfl, hB2.or, h60, nd, ?_⟩
      refine ⟨_, rfl, p, _, rfl, hB2.or, rfl, ?_⟩
      rw [txs_len, decide_eq_true rfl]
      exact k H2 (s1.trans r1)
abbrev s_istargets : Stmt := top 29
abbrev n_istargets : List Str := ["value", "signs", "marks", "mark"]
theorem sc_istargets : FnScope n_istargets ["value", "signs", "marks"] (fnScope s_istargets) := fnScope_by (by decide +kernel)
def spIsTargets : Sp := fun vs H Q _ => ∃ (p q : Addr) (b c : Bool) (ts ms : List (List Nat)) (sg : List Nat), vs = [.ref p, .str (S sg), .ref q] ∧ H p = some (seqB b (txs ts)) ∧ H q = some (seqB c (txs ms)) ∧ ts.length = sg.length ∧ sg.length ≤ 3 ∧ (∀ t ∈ ts, t ∈ ms) ∧ ∀ H', Same H H' → Q (.bl true) H'
theorem ok_istargets (T : BT mg) (c_isseq : Cal P w K mg base 1 "is_sequence" spIsSeq []) {f : Addr} {fd : FuncData} (F : Def K mg "_is_targets" s_istargets f fd) (b : Binds K fd ["value", "signs", "marks"] []) : Cal P w K mg base 2 "_is_targets" spIsTargets [] := by
  refine cal0 F b .nil sc_istargets (fun vs H Q E h => ?_) (fun cdv A outer s H vs Q E hr h => ?_)
  · obtain ⟨p, q, b, c, ts, ms, sg, rfl, _⟩ := h; rfl
  · obtain ⟨p, q, b, c, ts, ms, sg, rfl, hp, hq, hl, hl3, ht, k⟩ := h
    refine ⟨_, (pss_cons (ps_if (PW.pt (pw_or (pt_not (pt_val (pe_c c_isseq hr (by first | decide | omega) (by rfl) (pa_cons (pv 0) pa_nil)))) (pw_or1 (pt_cmpR op_ne (pe_callB (lenK K) (by rfl) T.m_len PySem.boot_len (pa_cons (pv 0) pa_nil)) (pe_callB call_len_str (by rfl) T.m_len PySem.boot_len (pa_cons (pv 1) pa_nil)) (nomark _))))) 
        (pss_one (ps_ret pe_bl)
        )
       pss_nil)
      (pss_one (ps_ret (pe_callB (cr_all rfl) (by rfl) T.m_all PyProof.Rows.boot_all (pa_cons (pe_lc (own := [("mark", 3)]) rfl sc_istargets.nd (pi_seq (pv 0)) (blkOk_by (N := n_istargets) (sc := fnScope s_istargets) (by decide +kernel)) (fun _ _ _ _ _ => (pg_name (i := 3) sc_istargets.nd rfl (.inl rfl))) (fun _ _ _ _ _ => pts_nil) (fun _ _ _ _ _ => (pe_cmpR (inK K) (pv 3) (pv 2) rfl))) pa_nil)))
      )), ?_⟩
    refine ⟨_, rfl, p, b, txs ts, rfl, hp, fun H1 s1 => ?_⟩
    refine ⟨true, rfl, ?_⟩
    refine iteN rfl ?_
    have hB1 : SqB K b H1 p (txs ts) := all_of hp s1
    have hC1 : SqB K c H1 q (txs ms) := all_of hq s1
    refine ⟨_, rfl, p, _, rfl, hB1.or, _, rfl, _, rfl, by rw [S_len]; exact sz (m := 3) hl3 (by decide), rfl, _, rfl, ?_⟩
    refine iteN (by rw [txs_len, S_len, hl]; simp) ?_
    refine ⟨_, rfl, p, b, txs ts, rfl, hB1, fun D hD => lc_keep keep_same (walk_seq (K := K) (b := b) (a := p) (xs := txs ts)) hD (by rw [txs_len]; exact small1000 (by omega)) (fun _ y => y = .bl true) (fun H2 r => hB1.same r) (fun i x H2 H3 R hii r1 hy hR => ?_) (fun ys H2 hly hg r1 hDs => ?_)⟩
    · obtain ⟨rfl, e⟩ := hy
      obtain ⟨m, hm, rfl⟩ := txs_get e
      refine ⟨rfl, ?_⟩
      refine ⟨_, rfl, _, rfl, q, txs ms, rfl, (hC1.same r1).or, rfl, flat_txs _, ?_⟩
      refine hR _ _ (Same.refl _) ?_
      rw [inV_txs, decide_eq_true (ht m (List.mem_of_getElem? hm))]; rfl
    · refine ⟨D, List.replicate ys.length true, rfl, SqL.of (by rw [← all_true hg]; exact hDs), ?_⟩
      rw [rep_all]
      exact k H2 (s1.trans r1)
abbrev s_issteps : Stmt := top 28
abbrev n_issteps : List Str := ["value", "signs", "marks", "targets"]
theorem sc_issteps : FnScope n_issteps ["value", "signs", "marks"] (fnScope s_issteps) := fnScope_by (by decide +kernel)
def spIsSteps : Sp := fun vs H Q _ => ∃ (p q : Addr) (b b2 c : Bool) (ps : List Addr) (tss : List (List (List Nat))) (ms : List (List Nat)) (sg : List Nat), vs = [.ref p, .str (S sg), .ref q] ∧ H p = some (seqB b (ps.map V.ref)) ∧ H q = some (seqB c (txs ms)) ∧ sg.length ≤ 3 ∧ ms.length < 60 ∧ ps.length = ms.length ∧
  tss.length = ps.length ∧ (∀ (i : Nat) (a : Addr) (ts : List (List Nat)), ps[i]? = some a → tss[i]? = some ts → H a = some (seqB b2 (txs ts)) ∧ ts.length = sg.length ∧ ∀ t ∈ ts, t ∈ ms) ∧ ∀ H', Same H H' → Q (.bl true) H'
theorem ok_issteps (T : BT mg) (c_isseq : Cal P w K mg base 1 "is_sequence" spIsSeq []) (c_istargets : Cal P w K mg base 2 "_is_targets" spIsTargets []) {f : Addr} {fd : FuncData} (F : Def K mg "_is_steps" s_issteps f fd) (b : Binds K fd ["value", "signs", "marks"] []) : Cal P w K mg base 3 "_is_steps" spIsSteps [] := by
  refine cal0 F b .nil sc_issteps (fun vs H Q E h => ?_) (fun cdv A outer s H vs Q E hr h => ?_)
  · obtain ⟨p, q, b, b2, c, ps, tss, ms, sg, rfl, _⟩ := h; rfl
  · obtain ⟨p, q, b, b2, c, ps, tss, ms, sg, rfl, hp, hq, hl3, h60, hl, hlt, hts, k⟩ := h
    refine ⟨_, (pss_cons (ps_if (PW.pt (pw_or (pt_not (pt_val (pe_c c_isseq hr (by first | decide | omega) (by rfl) (pa_cons (pv 0) pa_nil)))) (pw_or1 (pt_cmpR op_ne (pe_callB (lenK K) (by rfl) T.m_len PySem.boot_len (pa_cons (pv 0) pa_nil)) (pe_callB (lenK K) (by rfl) T.m_len PySem.boot_len (pa_cons (pv 2) pa_nil)) (nomark _))))) 
        (pss_one (ps_ret pe_bl)
        )
       pss_nil)
      (pss_one (ps_ret (pe_callB (cr_all rfl) (by rfl) T.m_all PyProof.Rows.boot_all (pa_cons (pe_lc (own := [("targets", 3)]) rfl sc_issteps.nd (pi_seq (pv 0)) (blkOk_by (N := n_issteps) (sc := fnScope s_issteps) (by decide +kernel)) (fun _ _ _ _ _ => (pg_name (i := 3) sc_issteps.nd rfl (.inl rfl))) (fun _ _ _ _ _ => pts_nil) (fun _ _ _ _ _ => (pe_c c_istargets hr (by first | decide | omega) (by rfl) (pa_cons (pv 3) (pa_cons (pv 1) (pa_cons (pv 2) pa_nil)))))) pa_nil)))
      )), ?_⟩
    refine ⟨_, rfl, p, b, _, rfl, hp, fun H1 s1 => ?_⟩
    refine ⟨true, rfl, ?_⟩
    refine iteN rfl ?_
    have hB1 : SqB K b H1 p (ps.map V.ref) := all_of hp s1
    have hC1 : SqB K c H1 q (txs ms) := all_of hq s1
    refine ⟨_, rfl, p, _, rfl, hB1.or, _, rfl, q, _, rfl, hC1.or, rfl, _, rfl, ?_⟩
    refine iteN (by rw [txs_len, List.length_map, hl]; simp) ?_
    refine ⟨_, rfl, p, b, ps.map V.ref, rfl, hB1, fun D hD => lc_keep keep_same (walk_seq (K := K) (b := b) (a := p) (xs := ps.map V.ref)) hD (by rw [List.length_map]; exact small1000 (by omega)) (fun _ y => y = .bl true) (fun H2 r => hB1.same r) (fun i x H2 H3 R hii r1 hy hR => ?_) (fun ys H2 hly hg r1 hDs => ?_)⟩
    · obtain ⟨rfl, e⟩ := hy
      rw [List.getElem?_map] at e
      have hi : i < ps.length := by rw [List.length_map] at hii; exact hii
      have hi2 : i < tss.length := by omega
      rw [List.getElem?_eq_getElem hi] at e
      cases e
      obtain ⟨h1, h2, h3⟩ := hts i _ _ (List.getElem?_eq_getElem hi) (List.getElem?_eq_getElem hi2)
      refine ⟨rfl, ?_⟩
      refine ⟨_, rfl, _, rfl, _, rfl, ps[i], q, b2, c, tss[i], ms, sg, rfl, (s1.trans r1) _ _ h1, (s1.trans r1) _ _ hq, h2, hl3, h3, fun H4 s4 => hR _ _ s4 rfl⟩
    · refine ⟨D, List.replicate ys.length true, rfl, SqL.of (by rw [← all_true hg]; exact hDs), ?_⟩
      rw [rep_all]
      exact k H2 (s1.trans r1)
end
end Toy
set_option maxHeartbeats 4000000
namespace Toy
open PySem L2 C8 SX LX
local macro_rules | `(tactic| walk_at "c") => `(tactic| refine And.intro (by first | (show (0 : Int) < _; omega) | exact Or.inr ⟨by decide, by decide⟩ | exact Or.inl ⟨by decide, by decide⟩ | (exact ⟨by omega, by omega⟩)) ?_)
local macro_rules | `(tactic| walk_at "s1") => `(tactic| first | refine ⟨_, rfl, ?_⟩ | refine ⟨_, _, rfl, rfl, ?_⟩ | refine .inl ⟨_, rfl, ?_⟩ | walk_at "c")
local macro_rules | `(tactic| walk_at "s") => `(tactic| repeat (walk_at "s1"))
section
variable {P : Program} {w : World} {K : PySem.W.Frag} {mg : Str → Option Value} {base : Heap}
structure CR (K : PySem.W.Frag) (C : Addr) : Prop where
  cl : Cls K C
  nS : PySem.W.findIn K (.ref C) "signs" = some none
  nM : PySem.W.findIn K (.ref C) "marks" = some none
  nF : PySem.W.findIn K (.ref C) "first" = some none
  nT : PySem.W.findIn K (.ref C) "steps" = some none
  nN : PySem.W.findIn K (.ref C) "_numbers" = some none
  nL : PySem.W.findIn K (.ref C) "_leads" = some none
  nC : PySem.W.findIn K (.ref C) "_columns" = some none
def rdF (sg : List Nat) (m : Addr) (f : List Nat) (st nu le : Addr) (t : List (Str × V)) : List (Str × V) :=
  ("signs", .str (S sg)) :: ("marks", .ref m) :: ("first", .str (S f)) :: ("steps", .ref st) :: ("_numbers", .ref nu) :: ("_leads", .ref le) :: t
def numK (ms : List (List Nat)) : List (Key × V) := (List.range ms.length).map fun i => (tk (ms.getD i []), .int (i : Nat))
structure RdrAt (C : Addr) (H : Hp) (a : Addr) (sg : List Nat) (ms : List (List Nat)) (f : List Nat) (tg : List Nat → Nat → List Nat) (dx m st nu le : Addr) (sa la : List Nat → Addr) (t : List (Str × V)) : Prop where
  ha : H a = some (.ins C dx (rdF sg m f st nu le t))
  hm : H m = some (.tup (txs ms))
  hst : H st = some (.tup (ms.map fun x => .ref (sa x)))
  hsa : ∀ x ∈ ms, H (sa x) = some (.tup (txs (sg.map (tg x))))
  hnu : H nu = some (.dK (numK ms))
  hle : H le = some (.dK (leK ms la))
  hla : ∀ x ∈ ms, H (la x) = some (.dK (laK sg (tg x)))
def colI (ms : List (List Nat)) (tg : List Nat → Nat → List Nat) (c : Nat) : List V := ms.map fun x => V.int (ms.idxOf (tg x c) : Nat)
def coK (sg : List Nat) (ca : Nat → Addr) : List (Key × V) := sg.map fun c => (tk [c], .ref (ca c))
structure ColAt (H : Hp) (co : Addr) (sg : List Nat) (ms : List (List Nat)) (tg : List Nat → Nat → List Nat) (ca : Nat → Addr) : Prop where
  hco : H co = some (.dK (coK sg ca))
  hca : ∀ c ∈ sg, H (ca c) = some (.tup (colI ms tg c))
def TailOk (t : List (Str × V)) : Prop := t = [] ∨ ∃ co : Addr, t = ([("_columns", .ref co)] : List (Str × V))
def Rdr0 (C : Addr) (H : Hp) (a : Addr) (sg : List Nat) (ms : List (List Nat)) (f : List Nat) (tg : List Nat → Nat → List Nat) : Prop := ∃ dx m st nu le sa la t, TailOk t ∧ RdrAt C H a sg ms f tg dx m st nu le sa la t
def Rdr (C : Addr) (H : Hp) (a : Addr) (sg : List Nat) (ms : List (List Nat)) (f : List Nat) (tg : List Nat → Nat → List Nat) : Prop := ∃ dx m st nu le sa la co ca, RdrAt C H a sg ms f tg dx m st nu le sa la [("_columns", .ref co)] ∧ ColAt H co sg ms tg ca
theorem Rdr.to0 {C : Addr} {H : Hp} {a : Addr} {sg : List Nat} {ms : List (List Nat)} {f : List Nat} {tg : List Nat → Nat → List Nat} (r : Rdr C H a sg ms f tg) : Rdr0 C H a sg ms f tg :=
  let ⟨dx, m, st, nu, le, sa, la, co, ca, h, _⟩ := r; ⟨dx, m, st, nu, le, sa, la, _, .inr ⟨co, rfl⟩, h⟩
theorem putF_new {f : Str} {v : V} : ∀ {fs : List (Str × V)}, (∀ p ∈ fs, ¬ p.1 = f) → putF f v fs = fs ++ [(f, v)]
  | [], _ => rfl
  | (g, u) :: fs, h => by
    show (if g = f then _ else (g, u) :: putF f v fs) = _
    rw [if_neg (h (g, u) List.mem_cons_self), putF_new fun p hp => h p (List.mem_cons_of_mem _ hp)]; rfl
theorem nm6 : ([("signs" : Str), "marks", "first", "steps", "_numbers", "_leads"] : List Str).Nodup := by decide +kernel
theorem pf1 (v0 : V) : putF ("signs" : Str) v0 ([] : List (Str × V)) = ([("signs", v0)] : List (Str × V)) := rfl
theorem pf2 (v0 v1 : V) : putF ("marks" : Str) v1 ([("signs", v0)] : List (Str × V)) = ([("signs", v0), ("marks", v1)] : List (Str × V)) := putF_new fun p hp => by
  simp at hp; rcases hp with rfl; dsimp only; decide +kernel
theorem pf3 (v0 v1 v2 : V) : putF ("first" : Str) v2 ([("signs", v0), ("marks", v1)] : List (Str × V)) = ([("signs", v0), ("marks", v1), ("first", v2)] : List (Str × V)) := putF_new fun p hp => by
  simp at hp; rcases hp with rfl | rfl <;> (dsimp only; decide +kernel)
theorem pf4 (v0 v1 v2 v3 : V) : putF ("steps" : Str) v3 ([("signs", v0), ("marks", v1), ("first", v2)] : List (Str × V)) = ([("signs", v0), ("marks", v1), ("first", v2), ("steps", v3)] : List (Str × V)) := putF_new fun p hp => by
  simp at hp; rcases hp with rfl | rfl | rfl <;> (dsimp only; decide +kernel)
theorem pf5 (v0 v1 v2 v3 v4 : V) : putF ("_numbers" : Str) v4 ([("signs", v0), ("marks", v1), ("first", v2), ("steps", v3)] : List (Str × V)) = ([("signs", v0), ("marks", v1), ("first", v2), ("steps", v3), ("_numbers", v4)] : List (Str × V)) := putF_new fun p hp => by
  simp at hp; rcases hp with rfl | rfl | rfl | rfl <;> (dsimp only; decide +kernel)
theorem pf6 (v0 v1 v2 v3 v4 v5 : V) : putF ("_leads" : Str) v5 ([("signs", v0), ("marks", v1), ("first", v2), ("steps", v3), ("_numbers", v4)] : List (Str × V)) = ([("signs", v0), ("marks", v1), ("first", v2), ("steps", v3), ("_numbers", v4), ("_leads", v5)] : List (Str × V)) := putF_new fun p hp => by
  simp at hp; rcases hp with rfl | rfl | rfl | rfl | rfl <;> (dsimp only; decide +kernel)
theorem pf7 (v0 v1 v2 v3 v4 v5 v6 : V) : putF ("_columns" : Str) v6 ([("signs", v0), ("marks", v1), ("first", v2), ("steps", v3), ("_numbers", v4), ("_leads", v5)] : List (Str × V)) = ([("signs", v0), ("marks", v1), ("first", v2), ("steps", v3), ("_numbers", v4), ("_leads", v5), ("_columns", v6)] : List (Str × V)) := putF_new fun p hp => by
  simp at hp; rcases hp with rfl | rfl | rfl | rfl | rfl | rfl <;> (dsimp only; decide +kernel)
theorem RdrAt.same {C : Addr} {H H' : Hp} {a : Addr} {sg : List Nat} {ms : List (List Nat)} {f : List Nat} {tg : List Nat → Nat → List Nat} {dx m st nu le : Addr} {sa la : List Nat → Addr} {t : List (Str × V)} (h : RdrAt C H a sg ms f tg dx m st nu le sa la t) (s : Same H H') : RdrAt C H' a sg ms f tg dx m st nu le sa la t :=
  ⟨s _ _ h.ha, s _ _ h.hm, s _ _ h.hst, fun x hx => s _ _ (h.hsa x hx), s _ _ h.hnu, s _ _ h.hle, fun x hx => s _ _ (h.hla x hx)⟩
theorem ColAt.same {H H' : Hp} {co : Addr} {sg : List Nat} {ms : List (List Nat)} {tg : List Nat → Nat → List Nat} {ca : Nat → Addr} (h : ColAt H co sg ms tg ca) (s : Same H H') : ColAt H' co sg ms tg ca := ⟨s _ _ h.hco, fun c hc => s _ _ (h.hca c hc)⟩
theorem Rdr.same {C : Addr} {H H' : Hp} {a : Addr} {sg : List Nat} {ms : List (List Nat)} {f : List Nat} {tg : List Nat → Nat → List Nat} (r : Rdr C H a sg ms f tg) (s : Same H H') : Rdr C H' a sg ms f tg :=
  let ⟨dx, m, st, nu, le, sa, la, co, ca, h, hc⟩ := r; ⟨dx, m, st, nu, le, sa, la, co, ca, h.same s, hc.same s⟩
theorem Rdr0.same {C : Addr} {H H' : Hp} {a : Addr} {sg : List Nat} {ms : List (List Nat)} {f : List Nat} {tg : List Nat → Nat → List Nat} (r : Rdr0 C H a sg ms f tg) (s : Same H H') : Rdr0 C H' a sg ms f tg :=
  let ⟨dx, m, st, nu, le, sa, la, t, ht, h⟩ := r; ⟨dx, m, st, nu, le, sa, la, t, ht, h.same s⟩
structure Good (sg : List Nat) (ms : List (List Nat)) (f : List Nat) (tg : List Nat → Nat → List Nat) : Prop where
  hsg : Sg sg
  hnd : ms.Nodup
  h1 : 1 ≤ ms.length
  h8 : ms.length ≤ 8
  hnm : ∀ m ∈ ms, Name m
  hf : f ∈ ms
  htg : ∀ m ∈ ms, ∀ c ∈ sg, tg m c ∈ ms
theorem zip_self_map {α β γ : Type} (g : α → β) (f : α → γ) : ∀ l : List α, ((l.zip (l.map f)).map fun p => (g p.1, p.2)) = l.map fun a => (g a, f a)
  | [] => rfl
  | a :: l => by
    have := zip_self_map g f l
    simp only [List.map_cons, List.zip_cons_cons] at this ⊢
    rw [this]
theorem la_dict {sg : List Nat} (hn : sg.Nodup) (t : Nat → List Nat) : mergeK [] ((sg.zip (txs (sg.map t))).map fun p => (tk [p.1], p.2)) = laK sg t := by
  have e : txs (sg.map t) = sg.map fun c => V.str (S (t c)) := by unfold txs; rw [List.map_map]; rfl
  rw [e, zip_self_map (fun c => tk [c]), merge_nil (nodup_keys (key := fun c => tk [c]) (fun a b h => (List.cons.inj (tk_inj h)).1) hn)]
  rfl
theorem getD_of {ms : List (List Nat)} {i : Nat} {m : List Nat} (h : ms[i]? = some m) : ms.getD i [] = m := by rw [List.getD_eq_getElem?_getD, h]; rfl
theorem key_inj {ms : List (List Nat)} (nd : ms.Nodup) : ∀ i j, i < ms.length → j < i → tk (ms.getD j []) ≠ tk (ms.getD i []) := fun i j hi hj h => by
  have e := tk_inj h
  have hj2 : j < ms.length := by omega
  rw [List.getD_eq_getElem?_getD, List.getD_eq_getElem?_getD, List.getElem?_eq_getElem hi, List.getElem?_eq_getElem hj2] at e
  have e1 := nd.idxOf_getElem i hi
  have e2 := nd.idxOf_getElem j hj2
  rw [show ms[j] = ms[i] from e, e1] at e2
  omega
end
section
variable {C : Addr} {H : Hp} {a : Addr} {sg : List Nat} {ms : List (List Nat)} {f : List Nat} {tg : List Nat → Nat → List Nat} {dx m st nu le : Addr} {sa la : List Nat → Addr} {t : List (Str × V)}
theorem rl_signs : (rdF sg m f st nu le t).lookup ("signs" : Str) = some (.str (S sg)) := by rfl
theorem rl_marks : (rdF sg m f st nu le t).lookup ("marks" : Str) = some (.ref m) := by rfl
theorem rl_first : (rdF sg m f st nu le t).lookup ("first" : Str) = some (.str (S f)) := by rfl
theorem rl_steps : (rdF sg m f st nu le t).lookup ("steps" : Str) = some (.ref st) := by rfl
theorem rl_numbers : (rdF sg m f st nu le t).lookup ("_numbers" : Str) = some (.ref nu) := by rfl
theorem rl_leads : (rdF sg m f st nu le t).lookup ("_leads" : Str) = some (.ref le) := by rfl
theorem RdrAt.mark (r : RdrAt C H a sg ms f tg dx m st nu le sa la t) {x : List Nat} (h : x ∈ ms) : DGet H le (.str (S x)) (some (.ref (la x))) := .inl ⟨_, tk x, .inl r.hle, rfl, (valV_map' (key := tk) (f := fun m => V.ref (la m)) (fun _ _ => tk_inj) h).symm⟩
theorem RdrAt.at_ (r : RdrAt C H a sg ms f tg dx m st nu le sa la t) {x : List Nat} (h : x ∈ ms) {c : Nat} (hc : c ∈ sg) : DGet H (la x) (.str (S [c])) (some (.str (S (tg x c)))) :=
  .inl ⟨_, tk [c], .inl (r.hla x h), rfl, (valV_map' (key := fun c => tk [c]) (f := fun c => V.str (S (tg x c))) (fun _ _ e => (List.cons.inj (tk_inj e)).1) hc).symm⟩
theorem numK_eq (ms : List (List Nat)) (nd : ms.Nodup) : numK ms = ms.map fun x => (tk x, V.int (ms.idxOf x : Nat)) := by
  unfold numK
  symm
  refine list_of (f := fun i => (tk (ms.getD i []), V.int (i : Nat))) (by rw [List.length_map]) fun j y hy => ?_
  rw [List.getElem?_map] at hy
  cases q : ms[j]? with
  | none => rw [q] at hy; cases hy
  | some x =>
    rw [q] at hy; cases hy
    obtain ⟨h1, h2⟩ := List.getElem?_eq_some_iff.mp q
    have : ms.idxOf x = j := by rw [← h2]; exact nd.idxOf_getElem j h1
    rw [getD_of q]
    show (tk x, V.int (ms.idxOf x : Nat)) = _
    rw [this]
theorem RdrAt.num (r : RdrAt C H a sg ms f tg dx m st nu le sa la t) (nd : ms.Nodup) {x : List Nat} (h : x ∈ ms) : DGet H nu (.str (S x)) (some (.int (ms.idxOf x : Nat))) := .inl ⟨_, tk x, .inl r.hnu, rfl, by
  rw [numK_eq ms nd]; exact (valV_map' (key := tk) (f := fun x => V.int (ms.idxOf x : Nat)) (fun _ _ => tk_inj) h).symm⟩
end
theorem rdr_no {sg : List Nat} {m : Addr} {f : List Nat} {st nu le : Addr} {t : List (Str × V)} {n : Str} (ht : TailOk t) (h : (n == ("signs" : Str)) = false ∧ (n == ("marks" : Str)) = false ∧ (n == ("first" : Str)) = false ∧ (n == ("steps" : Str)) = false ∧ (n == ("_numbers" : Str)) = false ∧ (n == ("_leads" : Str)) = false ∧ (n == ("_columns" : Str)) = false) : (rdF sg m f st nu le t).lookup n = none := by
  unfold rdF
  rw [List.lookup_cons, h.1, List.lookup_cons, h.2.1, List.lookup_cons, h.2.2.1, List.lookup_cons, h.2.2.2.1, List.lookup_cons, h.2.2.2.2.1, List.lookup_cons, h.2.2.2.2.2.1]
  rcases ht with rfl | ⟨co, rfl⟩
  · rfl
  · rw [List.lookup_cons, h.2.2.2.2.2.2]; rfl
section
variable {P : Program} {w : World} {K : PySem.W.Frag} {mg : Str → Option Value} {base : Heap}
abbrev s_m_num : Stmt := inClass (top 22) 4
abbrev n_m_num : List Str := ["self", "mark"]
theorem sc_m_num : FnScope n_m_num ["self", "mark"] (fnScope s_m_num) := fnScope_by (by decide +kernel)
def spMNum (C : Addr) : Sp := fun vs H Q _ => ∃ (a : Addr) (sg : List Nat) (ms : List (List Nat)) (f : List Nat) (tg : List Nat → Nat → List Nat) (x : List Nat), vs = [.ref a, .str (S x)] ∧ Rdr0 C H a sg ms f tg ∧ ms.Nodup ∧ x ∈ ms ∧ Q (.int (ms.idxOf x : Nat)) H
theorem ok_mnum {C : Addr} (T : BT mg) (CH : CR K C) {f : Addr} {fd : FuncData} (me : Meth K C "number_of" f) (F : C8.Fun K "number_of" "Reader.number_of" s_m_num f fd) (b : Binds K fd ["self", "mark"] []) : Met P w K mg base 1 C "number_of" (spMNum C) [] := by
  refine met0 CH.cl me F b sc_m_num (fun vs H Q E h => ?_) (fun cdv A outer s H vs Q E hr h => ?_)
  · obtain ⟨a, sg, ms, f, tg, x, rfl, _⟩ := h; rfl
  · obtain ⟨a, sg, ms, f, tg, x, rfl, ⟨dx, m, st, nu, le, sa, la, t, ht, r⟩, hnd, hx, k⟩ := h
    refine ⟨_, (pss_one (ps_ret (pe_dget (hu_of hr) (fldK K (pv 0) rfl) (pv 1) (fun _ _ => rfl)))
      ), ?_⟩
    refine ⟨_, rfl, a, C, dx, _, _, rfl, r.ha, CH.cl, CH.nN, rl_numbers, ?_⟩
    exact ⟨_, rfl, _, _, rfl, r.num hnd hx, k⟩
abbrev s_table : Stmt := top 25
abbrev n_table : List Str := ["reader", "targets", "mark"]
theorem sc_table : FnScope n_table ["reader"] (fnScope s_table) := fnScope_by (by decide +kernel)
abbrev ncs_table : Scope := relS (outS (ofRet ((fnBody s_table).getD 0 (.Pass ⟨0, 0, 0, 0⟩)))) (fnScope s_table)
def tabI (sg : List Nat) (ms : List (List Nat)) (tg : List Nat → Nat → List Nat) (x : List Nat) : List V := sg.map fun c => V.int (ms.idxOf (tg x c) : Nat)
def spTable (C : Addr) : Sp := fun vs H Q _ => ∃ (a : Addr) (sg : List Nat) (ms : List (List Nat)) (f : List Nat) (tg : List Nat → Nat → List Nat), vs = [.ref a] ∧ Rdr0 C H a sg ms f tg ∧ Good sg ms f tg ∧
  ∀ (p : Addr) (ra : List Nat → Addr) (H' : Hp), Same H H' → H p = none → H' p = some (.lst (ms.map fun x => .ref (ra x))) → (∀ x ∈ ms, H' (ra x) = some (.lst (tabI sg ms tg x))) → Q (.ref p) H'
theorem ok_table {C : Addr} (T : BT mg) (CH : CR K C) (c_m_num : Met P w K mg base 1 C "number_of" (spMNum C) []) {f : Addr} {fd : FuncData} (F : Def K mg "table_of" s_table f fd) (b : Binds K fd ["reader"] []) : Cal P w K mg base 2 "table_of" (spTable C) [] := by
  refine cal0 F b .nil sc_table (fun vs H Q E h => ?_) (fun cdv A outer s H vs Q E hr h => ?_)
  · obtain ⟨a, sg, ms, f, tg, rfl, _⟩ := h; rfl
  · obtain ⟨a, sg, ms, f, tg, rfl, hrd, hgd, k⟩ := h
    obtain ⟨dx, m, st, nu, le, sa, la, t, ht, r⟩ := id hrd
    have h8 := hgd.h8
    refine ⟨_, (pss_one (ps_ret (pe_lc (own := [("targets", 1)]) rfl sc_table.nd (pi_tup (fldK K (pv 0) rfl)) (blkOk_by (N := n_table) (sc := fnScope s_table) (by decide +kernel)) (fun _ _ _ _ _ => (pg_name (i := 1) sc_table.nd rfl (.inl rfl))) (fun _ _ _ _ _ => pts_nil) (fun _ _ _ _ _ => (pe_lc (own := [("mark", 2)]) rfl sc_table.nd (pi_tupK K (pv 1)) (blkOk_by (N := n_table) (sc := ncs_table) (by decide +kernel)) (fun _ _ _ _ _ => (pg_name (i := 2) sc_table.nd rfl (.inl rfl))) (fun _ _ _ _ _ => pts_nil) (fun _ _ _ _ _ => (pe_mt c_m_num hr (by decide) (pv 0) (pa_cons (pv 2) pa_nil)))))))
      ), ?_⟩
    refine ⟨_, rfl, a, C, dx, _, _, rfl, r.ha, CH.cl, CH.nT, rl_steps, ?_⟩
    refine ⟨st, rfl, ⟨_, SqT.of r.hst⟩, fun D hD => ?_⟩
    refine lc_keepH keep_same (walk_tup (K := K) (a := st) (xs := ms.map fun x => V.ref (sa x))) hD (by rw [List.length_map]; exact small1000 (by omega)) (fun j y H => ∃ t, y = .ref t ∧ t ≠ D ∧ ∀ mm, ms[j]? = some mm → H t = some (.lst (tabI sg ms tg mm))) (fun H r1 => SqT.of (r1 _ _ r.hst))
      (fun _ _ _ _ _ r1 ⟨t, e, n, h⟩ => ⟨t, e, n, fun mm hm => r1 _ _ (h mm hm)⟩) (fun _ _ _ _ _ _ _ ⟨t, e, n, h⟩ => ⟨t, e, n, fun mm hm => by rw [upd_ne n]; exact h mm hm⟩) (fun i x H2 H2' acc R hi r2 hDa hy hR => ?_) (fun ys H2 hly hg r2 hDs => ?_)
    · obtain ⟨rfl, e⟩ := hy
      rw [List.getElem?_map] at e
      cases em : ms[i]? with
      | none => rw [em] at e; cases e
      | some mm =>
        rw [em] at e; cases e
        have hmem := List.mem_of_getElem? em
        have hsm := r2 _ _ (r.hsa mm hmem)
        refine ⟨rfl, ?_⟩
        refine ⟨_, rfl, sa mm, rfl, ⟨_, SqT.of hsm⟩, fun D2 hD2 => lc_keep keep_same (walk_tup (K := K) (a := sa mm) (xs := txs (sg.map (tg mm)))) hD2 (by rw [txs_len, List.length_map]; exact small1000 (by have := hgd.hsg.2.2.1; omega)) (fun j y => ∀ c, sg[j]? = some c → y = .int (ms.idxOf (tg mm c) : Nat)) (fun H3 r3 => SqT.of (r3 _ _ hsm)) (fun j z H3 H4 R2 hj r3 hy hR2 => ?_) (fun zs H3 hlz hgz r3 hDz => ?_)⟩
        · obtain ⟨rfl, e⟩ := hy
          obtain ⟨l, hl, rfl⟩ := txs_get e
          rw [List.getElem?_map] at hl
          cases ec : sg[j]? with
          | none => rw [ec] at hl; cases hl
          | some c =>
            rw [ec] at hl
            obtain rfl : tg mm c = l := Option.some.inj hl
            refine ⟨rfl, ?_⟩
            refine ⟨_, rfl, a, dx, _, rfl, (r2.trans r3) _ _ r.ha, rdr_no ht (by decide +kernel), _, rfl, ?_⟩
            exact ⟨a, sg, ms, f, tg, tg mm c, rfl, hrd.same (r2.trans r3), hgd.hnd, hgd.htg mm hmem c (List.mem_of_getElem? ec), hR2 _ _ (Same.refl _) fun c' h => by rw [Option.some.inj (ec.symm.trans h)]⟩
        · have ez : zs = tabI sg ms tg mm := by
            refine list_map (hlz.trans (by rw [txs_len, List.length_map])) fun j y c e1 e2 => hgz j y e1 c e2
          subst ez
          have nD : D2 ≠ D := fun e => by rw [e, hDa] at hD2; cases hD2
          exact hR _ _ r3 ⟨D2, rfl, nD, fun m2 h2 => by rw [em] at h2; cases h2; exact hDz⟩
    rw [List.length_map] at hly
    obtain ⟨ra, hra⟩ := fun_of (γ := Addr) hgd.hnd (P := fun j mm t => ys[j]? = some (V.ref t) ∧ H2 t = some (.lst (tabI sg ms tg mm))) fun j mm hj => by
      have hjl : j < ys.length := by rw [hly]; exact (List.getElem?_eq_some_iff.mp hj).1
      obtain ⟨t, e, _, h⟩ := hg j _ (List.getElem?_eq_getElem hjl)
      exact ⟨t, by rw [List.getElem?_eq_getElem hjl, e], h mm hj⟩
    have eys : ys = ms.map fun x => V.ref (ra x) := list_map hly fun j y x e1 e2 => by have := (hra j x e2).1; rw [e1] at this; exact Option.some.inj this
    subst eys
    exact k D ra H2 r2 hD hDs fun x hx => by obtain ⟨j, hj⟩ := List.getElem?_of_mem hx; exact (hra j x hj).2
abbrev s_cols : Stmt := top 26
abbrev n_cols : List Str := ["signs", "table", "at", "sign", "things"]
theorem sc_cols : FnScope n_cols ["signs", "table"] (fnScope s_cols) := fnScope_by (by decide +kernel)
abbrev ncs_cols : Scope := relS (outD (ofRet ((fnBody s_cols).getD 0 (.Pass ⟨0, 0, 0, 0⟩)))) (fnScope s_cols)
def spCols : Sp := fun vs H Q _ => ∃ (p : Addr) (sg : List Nat) (ms : List (List Nat)) (tg : List Nat → Nat → List Nat) (ra : List Nat → Addr), vs = [.str (S sg), .ref p] ∧ H p = some (.lst (ms.map fun x => .ref (ra x))) ∧ (∀ x ∈ ms, H (ra x) = some (.lst (tabI sg ms tg x))) ∧ ms.length ≤ 60 ∧ sg.length ≤ 3 ∧ sg.Nodup ∧
  ∀ (d : Addr) (ca : Nat → Addr) (H' : Hp), Same H H' → H d = none → ColAt H' d sg ms tg ca → Q (.ref d) H'
theorem ok_cols (T : BT mg) {f : Addr} {fd : FuncData} (F : Def K mg "columns_of" s_cols f fd) (b : Binds K fd ["signs", "table"] []) : Cal P w K mg base 1 "columns_of" spCols [] := by
  refine cal0 F b .nil sc_cols (fun vs H Q E h => ?_) (fun cdv A outer s H vs Q E hr h => ?_)
  · obtain ⟨p, sg, ms, tg, ra, rfl, _⟩ := h; rfl
  · obtain ⟨p, sg, ms, tg, ra, rfl, hp, hra, hm, hs3, hnd, k⟩ := h
    refine ⟨_, (pss_one (ps_ret (pe_dc (own := [("at", 2), ("sign", 3)]) rfl sc_cols.nd (pi_enumX (by rfl) T.m_enumerate (pa_cons (pv 0) pa_nil)) (blkOk_by (N := n_cols) (sc := fnScope s_cols) (by decide +kernel)) (fun _ _ _ _ _ => (tupK K 2 (pgs_cons (pg_name (i := 2) sc_cols.nd rfl (.inr rfl)) (pgs_cons (pg_name (i := 3) sc_cols.nd rfl (.inl rfl)) pgs_nil)))) (fun _ _ _ _ _ => pts_nil) (fun _ _ _ _ _ => (pv 3)) (fun _ _ _ _ _ => (pe_callTy (tupleK K) (by rfl) T.m_tuple PyProof.Rows.boot_tuple (pa_cons (pe_lc (own := [("things", 4)]) rfl sc_cols.nd (pi_listK K (pv 1)) (blkOk_by (N := n_cols) (sc := ncs_cols) (by decide +kernel)) (fun _ _ _ _ _ => (pg_name (i := 4) sc_cols.nd rfl (.inl rfl))) (fun _ _ _ _ _ => pts_nil) (fun _ _ _ _ _ => (pe_ix (ixl K) (pv 4) (pv 2) (fun _ _ => rfl)))) pa_nil)))))
      ), ?_⟩
    have hinj : ∀ i j, i < sg.length → j < i → tk [sg.getD j 0] ≠ tk [sg.getD i 0] := fun i j hi hj h => by
      have e := (List.cons.inj (tk_inj h)).1
      have hj2 : j < sg.length := by omega
      rw [List.getD_eq_getElem?_getD, List.getD_eq_getElem?_getD, List.getElem?_eq_getElem hi, List.getElem?_eq_getElem hj2] at e
      have e1 := hnd.idxOf_getElem i hi
      have e2 := hnd.idxOf_getElem j hj2
      rw [show sg[j] = sg[i] from e, e1] at e2
      omega
    have hget : ∀ {i c : Nat}, sg[i]? = some c → sg.getD i 0 = c := fun h => by rw [List.getD_eq_getElem?_getD, h]; rfl
    refine ⟨_, rfl, V.str (S sg), .txt (S sg), rfl, rfl, trivial, fun D hD => ?_⟩
    refine dc_keep keep_same (walk_enumX (K := K) (S := .txt (S sg)) (xs := sg.map fun c => V.str (S [c]))) hD (by rw [List.length_map]; exact small1000 (by omega)) (fun i => tk [sg.getD i 0]) (fun j y H => ∃ t, y = .ref t ∧ ∀ c, sg[j]? = some c → H t = some (.tup (colI ms tg c))) (fun H r => rfl) (fun i j hi hj => hinj i j (by rw [List.length_map] at hi; exact hi) hj)
      (fun _ _ _ _ _ r ⟨t, e, h⟩ => ⟨t, e, fun c hc => r _ _ (h c hc)⟩) (fun _ _ _ _ _ _ hDa ⟨t, e, h⟩ => ⟨t, e, fun c hc => by rw [upd_ne (ne_of (h c hc) hDa (by intro h; cases h))]; exact h c hc⟩) (fun i x H2 H3 acc R hi r hDa hy hR => ?_) (fun ys H2 hly hg r2 hDs => ?_)
    · obtain ⟨t, x1, x2, rfl, ht, rfl, e1, e2⟩ := hy
      obtain rfl : V.int (i : Nat) = x1 := Option.some.inj e1
      have e2 : (sg.map fun c => V.str (S [c]))[i]? = some x2 := e2
      rw [List.getElem?_map] at e2
      cases ec : sg[i]? with
      | none => rw [ec] at e2; cases e2
      | some c =>
        rw [ec] at e2
        obtain rfl : V.str (S [c]) = x2 := Option.some.inj e2
        have s3 : Same H2 (upd H2 t (.tup [.int (i : Nat), .str (S [c])])) := sm_new ht
        have ht3 : (upd H2 t (.tup [.int (i : Nat), .str (S [c])])) t = some (.tup [.int (i : Nat), .str (S [c])]) := upd_same
        generalize upd H2 t (.tup [.int (i : Nat), .str (S [c])]) = H3 at s3 ht3 ⊢
        refine ⟨t, _, rfl, .inl (.inl ht3), rfl, _, _, rfl, _, _, rfl, rfl, rfl, ?_⟩
        refine ⟨_, rfl, ?_⟩
        have hp3 := (r.trans s3) _ _ hp
        have hic : i < sg.length := (List.getElem?_eq_some_iff.mp ec).1
        refine ⟨_, rfl, p, rfl, ⟨_, SqL.of hp3⟩, fun D2 hD2 => lc_keep keep_same (walk_list (K := K) (a := p) (xs := ms.map fun x => V.ref (ra x))) hD2 (by rw [List.length_map]; exact small1000 (by omega)) (fun j y => ∀ mm, ms[j]? = some mm → y = .int (ms.idxOf (tg mm c) : Nat)) (fun H4 r4 => SqL.of (r4 _ _ hp3)) (fun j z H4 H5 R2 hj r4 hy hR2 => ?_) (fun zs H4 hlz hgz r4 hDz => ?_)⟩
        · obtain ⟨rfl, e⟩ := hy
          rw [List.getElem?_map] at e
          cases em : ms[j]? with
          | none => rw [em] at e; cases e
          | some mm =>
            rw [em] at e; cases e
            have hrow := ((r.trans s3).trans r4) _ _ (hra mm (List.mem_of_getElem? em))
            refine ⟨rfl, ?_⟩
            refine ⟨_, rfl, _, rfl, ra mm, tabI sg ms tg mm, (i : Nat), .int (ms.idxOf (tg mm c) : Nat), rfl, rfl, SqL.of hrow, at_of rfl (by unfold tabI; rw [List.getElem?_map, ec]; rfl), ?_⟩
            exact hR2 _ _ (Same.refl _) fun m2 h2 => by rw [Option.some.inj (em.symm.trans h2)]
        · have ez : zs = colI ms tg c := by
            unfold colI
            exact list_map (hlz.trans (by rw [List.length_map])) fun j y mm e1 e2 => hgz j y e1 mm e2
          subst ez
          refine nil1 ⟨D2, _, rfl, .inl ⟨SqL.of hDz, fun st hst => ?_⟩⟩
          rw [hget ec] at hR
          exact hR _ _ ((s3.trans r4).trans (sm_new hst)) ⟨st, rfl, fun c' hc' => by rw [Option.some.inj (hc'.symm.trans ec)]; exact upd_same⟩
    · rw [List.length_map] at hly hDs
      obtain ⟨ca, hca⟩ := fun_of (γ := Addr) hnd (P := fun j c t => ys[j]? = some (V.ref t) ∧ H2 t = some (.tup (colI ms tg c))) fun j c hj => by
        have hjl : j < ys.length := by rw [hly]; exact (List.getElem?_eq_some_iff.mp hj).1
        obtain ⟨t, e, h⟩ := hg j _ (List.getElem?_eq_getElem hjl)
        exact ⟨t, by rw [List.getElem?_eq_getElem hjl, e], h c hj⟩
      have eys : ys = sg.map fun c => V.ref (ca c) := list_map hly fun j y c e1 e2 => by have := (hca j c e2).1; rw [e1] at this; exact Option.some.inj this
      subst eys
      refine k D ca H2 r2 hD ⟨?_, fun c hc => by obtain ⟨j, hj⟩ := List.getElem?_of_mem hc; exact (hca j c hj).2⟩
      rw [hDs]
      have e : (sg.map fun c => V.ref (ca c)) = (List.range sg.length).map fun i => V.ref (ca (sg.getD i 0)) := by
        refine (list_of (by rw [List.length_map]) fun j y hy => ?_)
        rw [List.getElem?_map] at hy
        cases q : sg[j]? with
        | none => rw [q] at hy; cases hy
        | some x => rw [q] at hy; cases hy; rw [hget q]
      rw [e, zip_self_map (fun i => tk [sg.getD i 0])]
      congr 2
      symm
      unfold coK
      refine list_of (f := fun i => (tk [sg.getD i 0], V.ref (ca (sg.getD i 0)))) (by rw [List.length_map]) fun j y hy => ?_
      rw [List.getElem?_map] at hy
      cases q : sg[j]? with
      | none => rw [q] at hy; cases hy
      | some x => rw [q] at hy; cases hy; rw [hget q]
end
end Toy
set_option maxHeartbeats 4000000
namespace Toy
open PySem L2 C8 SX LX
local macro_rules | `(tactic| walk_at "c") => `(tactic| refine And.intro (by first | (show (0 : Int) < _; omega) | exact Or.inr ⟨by decide, by decide⟩ | exact Or.inl ⟨by decide, by decide⟩ | (exact ⟨by omega, by omega⟩)) ?_)
local macro_rules | `(tactic| walk_at "s1") => `(tactic| first | refine ⟨_, rfl, ?_⟩ | refine ⟨_, _, rfl, rfl, ?_⟩ | refine .inl ⟨_, rfl, ?_⟩ | walk_at "c")
local macro_rules | `(tactic| walk_at "s") => `(tactic| repeat (walk_at "s1"))
section
variable {P : Program} {w : World} {K : PySem.W.Frag} {mg : Str → Option Value} {base : Heap}
abbrev s_init : Stmt := inClass (top 22) 0
abbrev n_init : List Str := ["self", "signs", "marks", "first", "steps", "at", "mark", "targets"]
theorem sc_init : FnScope n_init ["self", "signs", "marks", "first", "steps"] (fnScope s_init) := fnScope_by (by decide +kernel)
def spInit (C : Addr) : Sp := fun vs H Q _ => ∃ (a dx q p : Addr) (b c d : Bool) (sg : List Nat) (ms : List (List Nat)) (f : List Nat) (tg : List Nat → Nat → List Nat) (pa : List Nat → Addr), vs = [.ref a, .str (S sg), .ref q, .str (S f), .ref p] ∧ H a = some (.ins C dx []) ∧
  H q = some (seqB b (txs ms)) ∧ H p = some (seqB c (ms.map fun x => .ref (pa x))) ∧ (∀ x ∈ ms, H (pa x) = some (seqB d (txs (sg.map (tg x))))) ∧ Good sg ms f tg ∧
  ∀ H', (∀ b o, b ≠ a → H b = some o → H' b = some o) → Rdr C H' a sg ms f tg → Q .non H'
theorem ok_init {C : Addr} (T : BT mg) (CH : CR K C) (c_issigns : Cal P w K mg base 3 "is_signs" spIsSigns []) (c_ismarks : Cal P w K mg base 4 "_is_marks" spIsMarks []) (c_issteps : Cal P w K mg base 3 "_is_steps" spIsSteps []) (c_table : Cal P w K mg base 2 "table_of" (spTable C) []) (c_cols : Cal P w K mg base 1 "columns_of" spCols []) (M : Mk K C f) (hm : mg "Reader" = some (.ref C)) {fd : FuncData} (F : C8.Fun K "__init__" "Reader.__init__" s_init f fd) (b : Binds K fd ["self", "signs", "marks", "first", "steps"] []) : Mak P w K mg base 5 "Reader" C (spInit C) [] := by
  refine mak0 M hm F b .nil sc_init (fun vs H Q E h => ?_) (fun cdv A outer s H vs Q E hr h => ?_)
  · obtain ⟨a, dx, q, p, b, c, d, sg, ms, f, tg, pa, rfl, _⟩ := h; rfl
  · obtain ⟨a, dx, q, p, b, c, d, sg, ms, f, tg, pa, rfl, ha, hq, hp, hpa, hgd, k⟩ := h
    refine ⟨_, (pss_cons (ps_if (pt_not (pt_val (pe_c c_issigns hr (by first | decide | omega) (by rfl) (pa_cons (pv 1) pa_nil)))) 
        (pss_one ps_never
        )
       pss_nil)
      (pss_cons (ps_if (pt_not (pt_val (pe_c c_ismarks hr (by first | decide | omega) (by rfl) (pa_cons (pv 2) pa_nil)))) 
        (pss_one ps_never
        )
       pss_nil)
      (pss_cons (ps_if (pt_cmpR (notInK K) (pv 3) (pv 2) rfl) 
        (pss_one ps_never
        )
       pss_nil)
      (pss_cons (ps_if (pt_not (pt_val (pe_c c_issteps hr (by first | decide | omega) (by rfl) (pa_cons (pv 4) (pa_cons (pv 1) (pa_cons (pv 2) pa_nil)))))) 
        (pss_one ps_never
        )
       pss_nil)
      (pss_cons (ps_fld (pv 0) (pv 1) rfl)
      (pss_cons (ps_fld (pv 0) (pe_callTy (tupleK K) (by rfl) T.m_tuple PyProof.Rows.boot_tuple (pa_cons (pv 2) pa_nil)) rfl)
      (pss_cons (ps_fld (pv 0) (pv 3) rfl)
      (pss_cons (ps_fld (pv 0) (pe_callTy (tupleK K) (by rfl) T.m_tuple PyProof.Rows.boot_tuple (pa_cons (pe_lc (own := [("targets", 7)]) rfl sc_init.nd (pi_seq (pv 4)) (blkOk_by (N := n_init) (sc := fnScope s_init) (by decide +kernel)) (fun _ _ _ _ _ => (pg_name (i := 7) sc_init.nd rfl (.inl rfl))) (fun _ _ _ _ _ => pts_nil) (fun _ _ _ _ _ => (pe_callTy (tupleK K) (by rfl) T.m_tuple PyProof.Rows.boot_tuple (pa_cons (pv 7) pa_nil)))) pa_nil)) rfl)
      (pss_cons (ps_fld (pv 0) (pe_dc (own := [("at", 5), ("mark", 6)]) rfl sc_init.nd (pi_enumX (by rfl) T.m_enumerate (pa_cons (fldK K (pv 0) rfl) pa_nil)) (blkOk_by (N := n_init) (sc := fnScope s_init) (by decide +kernel)) (fun _ _ _ _ _ => (tupK K 2 (pgs_cons (pg_name (i := 5) sc_init.nd rfl (.inl rfl)) (pgs_cons (pg_name (i := 6) sc_init.nd rfl (.inl rfl)) pgs_nil)))) (fun _ _ _ _ _ => pts_nil) (fun _ _ _ _ _ => (pv 6)) (fun _ _ _ _ _ => (pv 5))) rfl)
      (pss_cons (ps_fld (pv 0) (pe_dc (own := [("mark", 6), ("targets", 7)]) rfl sc_init.nd (pi_zipX (by rfl) T.m_zip (pa_cons (fldK K (pv 0) rfl) (pa_cons (fldK K (pv 0) rfl) pa_nil))) (blkOk_by (N := n_init) (sc := fnScope s_init) (by decide +kernel)) (fun _ _ _ _ _ => (tupK K 2 (pgs_cons (pg_name (i := 6) sc_init.nd rfl (.inl rfl)) (pgs_cons (pg_name (i := 7) sc_init.nd rfl (.inl rfl)) pgs_nil)))) (fun _ _ _ _ _ => pts_nil) (fun _ _ _ _ _ => (pv 6)) (fun _ _ _ _ _ => (dictZipK K rfl (by rfl) T.m_dict (by rfl) T.m_zip (pa_cons (pv 1) (pa_cons (pv 7) pa_nil))))) rfl)
      (pss_one (ps_fld (pv 0) (pe_c c_cols hr (by first | decide | omega) (by rfl) (pa_cons (pv 1) (pa_cons (pe_c c_table hr (by first | decide | omega) (by rfl) (pa_cons (pv 0) pa_nil)) pa_nil))) rfl)
      ))))))))))), ?_⟩
    refine ⟨_, rfl, sg, rfl, hgd.hsg, fun H1 s1 => ?_⟩
    refine ⟨true, rfl, iteN rfl ?_⟩
    refine ⟨_, rfl, q, b, ms, rfl, s1 _ _ hq, hgd.h1, by have := hgd.h8; omega, hgd.hnd, hgd.hnm, fun H2 s2 => ?_⟩
    refine ⟨true, rfl, iteN rfl ?_⟩
    have s12 := s1.trans s2
    refine ⟨_, rfl, _, rfl, q, txs ms, rfl, (all_of hq s12).or, rfl, flat_txs _, _, rfl, ?_⟩
    refine iteN (by rw [inV_txs, decide_eq_true hgd.hf]; rfl) ?_
    have hpa2 : ∀ (i : Nat) (x : Addr) (ts : List (List Nat)), (ms.map pa)[i]? = some x → (ms.map fun m => sg.map (tg m))[i]? = some ts → H2 x = some (seqB d (txs ts)) ∧ ts.length = sg.length ∧ ∀ t ∈ ts, t ∈ ms := fun i x ts e1 e2 => by
      rw [List.getElem?_map] at e1 e2
      cases e : ms[i]? with
      | none => rw [e] at e1; cases e1
      | some m =>
        rw [e] at e1 e2
        cases e1; cases e2
        have hmm := List.mem_of_getElem? e
        exact ⟨s12 _ _ (hpa m hmm), by rw [List.length_map], fun t ht => let ⟨c, hc, e⟩ := List.mem_map.mp ht; e ▸ hgd.htg m hmm c hc⟩
    refine ⟨_, rfl, _, rfl, _, rfl, p, q, c, d, b, ms.map pa, ms.map fun m => sg.map (tg m), ms, sg, rfl, by rw [List.map_map]; exact s12 _ _ hp, s12 _ _ hq, hgd.hsg.2.2.1, by have := hgd.h8; omega, by rw [List.length_map], by rw [List.length_map, List.length_map], hpa2, fun H3 s3 => ?_⟩
    refine ⟨true, rfl, iteN rfl ?_⟩
    have s13 := s12.trans s3
    have ha3 := s13 _ _ ha
    refine ⟨_, rfl, _, rfl, a, C, dx, [], rfl, ha3, CH.cl, CH.nS, (by show 0 < 1000; decide), ?_⟩
    have nqa : q ≠ a := ne_of (s13 _ _ hq) ha3 (by cases b <;> (intro h; cases h))
    have npa : p ≠ a := ne_of (s13 _ _ hp) ha3 (by cases c <;> (intro h; cases h))
    generalize hH4 : upd H3 a (.ins C dx (putF ("signs" : Str) (.str (S sg)) [])) = H4
    have k4 : ∀ x o, x ≠ a → H3 x = some o → H4 x = some o := fun x o n e => by rw [← hH4, upd_ne n]; exact e
    have ha4 : H4 a = some (.ins C dx [("signs", .str (S sg))]) := by rw [← hH4, upd_same]; rfl
    clear hH4
    unfold tSeq
    dsimp only
    unfold sFld
    refine tCB_tup (i := 2) rfl (k4 _ _ nqa (s13 _ _ hq)) fun m H5 s5 hm5 hmq hmn => ?_
    have ha5 := s5 _ _ ha4
    refine ⟨_, rfl, a, C, dx, _, rfl, ha5, CH.cl, CH.nM, (by show 1 < 1000; decide), ?_⟩
    rw [pf2]
    have nma : m ≠ a := ne_of hm5 ha5 (by intro h; cases h)
    generalize hH6 : upd H5 a (.ins C dx [("signs", .str (S sg)), ("marks", .ref m)]) = H6
    have k6 : ∀ x o, x ≠ a → H3 x = some o → H6 x = some o := fun x o n e => by rw [← hH6, upd_ne n]; exact s5 _ _ (k4 _ _ n e)
    have hm6 : H6 m = some (.tup (txs ms)) := by rw [← hH6, upd_ne nma]; exact hm5
    have ha6 : H6 a = some (.ins C dx [("signs", .str (S sg)), ("marks", .ref m)]) := by rw [← hH6, upd_same]
    clear hmq hmn
    clear hH6 hm5 ha5 s5 k4 ha4 H5 H4
    refine ⟨_, rfl, _, rfl, a, C, dx, _, rfl, ha6, CH.cl, CH.nF, (by show 2 < 1000; decide), ?_⟩
    rw [pf3]
    generalize hH7 : upd H6 a (.ins C dx [("signs", .str (S sg)), ("marks", .ref m), ("first", .str (S f))]) = H7
    have k7 : ∀ x o, x ≠ a → H3 x = some o → H7 x = some o := fun x o n e => by rw [← hH7, upd_ne n]; exact k6 _ _ n e
    have hm7 : H7 m = some (.tup (txs ms)) := by rw [← hH7, upd_ne nma]; exact hm6
    have ha7 : H7 a = some (.ins C dx [("signs", .str (S sg)), ("marks", .ref m), ("first", .str (S f))]) := by rw [← hH7, upd_same]
    clear hH7 hm6 ha6 k6 H6
    have hp7 := k7 _ _ npa (s13 _ _ hp)
    have hpa7 : ∀ x ∈ ms, H7 (pa x) = some (seqB d (txs (sg.map (tg x)))) := fun x hx => k7 _ _ (ne_of (s13 _ _ (hpa x hx)) ha3 (by cases d <;> (intro h; cases h))) (s13 _ _ (hpa x hx))
    have hsgn : sg.Nodup := hgd.hsg.1.imp fun h => by omega
    have h8 := hgd.h8
    refine ⟨_, rfl, p, c, _, rfl, SqB.of hp7, fun D hD => lc_keepH keep_same (walk_seq (K := K) (b := c) (a := p) (xs := ms.map fun x => V.ref (pa x))) hD (by rw [List.length_map]; exact small1000 (by omega)) (fun j y H => ∃ t, y = .ref t ∧ ∀ mm, ms[j]? = some mm → H t = some (.tup (txs (sg.map (tg mm))))) (fun H r => SqB.of (r _ _ hp7))
      (fun _ _ _ _ _ r ⟨t, e, h⟩ => ⟨t, e, fun mm hm => r _ _ (h mm hm)⟩) (fun _ _ _ _ _ _ hDa ⟨t, e, h⟩ => ⟨t, e, fun mm hm => by rw [upd_ne (ne_of (h mm hm) hDa (by intro h; cases h))]; exact h mm hm⟩) (fun i x H8 H8' acc R hi r hDa hy hR => ?_) (fun ys H8 hly hg r8 hDs => ?_)⟩
    · obtain ⟨rfl, e⟩ := hy
      rw [List.getElem?_map] at e
      cases em : ms[i]? with
      | none => rw [em] at e; cases e
      | some mm =>
        rw [em] at e; cases e
        refine ⟨rfl, ?_⟩
        refine ⟨_, rfl, pa mm, _, rfl, tupA (Q := R) (r _ _ (hpa7 mm (List.mem_of_getElem? em))) fun l H9 s9 hl9 _ _ => hR _ _ s9 ⟨l, rfl, fun m2 h2 => by rw [em] at h2; cases h2; exact hl9⟩⟩
    rw [List.length_map] at hly
    obtain ⟨sa, hsa⟩ := fun_of (γ := Addr) hgd.hnd (P := fun j mm t => ys[j]? = some (V.ref t) ∧ H8 t = some (.tup (txs (sg.map (tg mm))))) fun j mm hj => by
      have hjl : j < ys.length := by rw [hly]; exact (List.getElem?_eq_some_iff.mp hj).1
      obtain ⟨t, e, h⟩ := hg j _ (List.getElem?_eq_getElem hjl)
      exact ⟨t, by rw [List.getElem?_eq_getElem hjl, e], h mm hj⟩
    have eys : ys = ms.map fun x => V.ref (sa x) := list_map hly fun j y x e1 e2 => by have := (hsa j x e2).1; rw [e1] at this; exact Option.some.inj this
    have hsa8 : ∀ x ∈ ms, H8 (sa x) = some (.tup (txs (sg.map (tg x)))) := fun x hx => by obtain ⟨j, hj⟩ := List.getElem?_of_mem hx; exact (hsa j x hj).2
    clear hsa
    subst eys
    refine nil1 ⟨D, _, rfl, .inl ⟨SqL.of hDs, fun st hst => ?_⟩⟩
    have ha8 := r8 _ _ ha7
    have nsta : st ≠ a := (ne_of_none ha8 hst).symm
    refine ⟨_, rfl, a, C, dx, _, rfl, (by rw [upd_ne nsta.symm]; exact ha8), CH.cl, CH.nT, (by show 3 < 1000; decide), ?_⟩
    rw [pf4]
    generalize hH9 : upd (upd H8 st (.tup (ms.map fun x => V.ref (sa x)))) a (.ins C dx [("signs", .str (S sg)), ("marks", .ref m), ("first", .str (S f)), ("steps", .ref st)]) = H9
    have k9 : ∀ x o, x ≠ a → H8 x = some o → H9 x = some o := fun x o n e => by rw [← hH9, upd_ne n, upd_ne (ne_of_none e hst)]; exact e
    have hm9 : H9 m = some (.tup (txs ms)) := k9 _ _ nma (r8 _ _ hm7)
    have hst9 : H9 st = some (.tup (ms.map fun x => V.ref (sa x))) := by rw [← hH9, upd_ne nsta, upd_same]
    have hsa9 : ∀ x ∈ ms, H9 (sa x) = some (.tup (txs (sg.map (tg x)))) := fun x hx => k9 _ _ (ne_of (hsa8 x hx) ha8 (by intro h; cases h)) (hsa8 x hx)
    have ha9 : H9 a = some (.ins C dx [("signs", .str (S sg)), ("marks", .ref m), ("first", .str (S f)), ("steps", .ref st)]) := by rw [← hH9, upd_same]
    have kk9 : ∀ x o, x ≠ a → H3 x = some o → H9 x = some o := fun x o n e => k9 _ _ n (r8 _ _ (k7 _ _ n e))
    clear hH9 k9 hsa8 ha8 hst hDs hly hg r8 hD hpa7 hp7 k7 hm7 ha7
    refine ⟨_, rfl, a, C, dx, _, _, rfl, ha9, CH.cl, CH.nM, (show _ = some (V.ref m) by rfl), ?_⟩
    refine nil1 ⟨.ref m, .tup m, rfl, rfl, ⟨_, SqT.of hm9⟩, fun D2 hD2 => ?_⟩
    refine dc_keep keep_same (walk_enumX (K := K) (S := .tup m) (xs := txs ms)) hD2 (by rw [txs_len]; exact small1000 (by omega)) (fun i => tk (ms.getD i [])) (fun j y H => y = .int (j : Nat)) (fun H r => SqT.of (r _ _ hm9)) (fun i j hi hj => key_inj hgd.hnd i j (by rw [txs_len] at hi; exact hi) hj)
      (fun _ _ _ _ _ _ h => h) (fun _ _ _ _ _ _ _ h => h) (fun i x H10 H11 acc R hi r hDa hy hR => ?_) (fun ys H10 hly hg r10 hDs => ?_)
    · obtain ⟨t, x1, x2, rfl, ht, rfl, e1, e2⟩ := hy
      obtain rfl : V.int (i : Nat) = x1 := Option.some.inj e1
      obtain ⟨mm, hmm, rfl⟩ := txs_get (show (txs ms)[i]? = some x2 from e2)
      refine ⟨t, _, rfl, .inl (.inl upd_same), rfl, _, _, rfl, _, _, rfl, rfl, rfl, ?_⟩
      refine ⟨_, rfl, _, rfl, ?_⟩
      rw [getD_of hmm] at hR
      exact hR _ _ (sm_new ht) rfl
    have eys : ys = (List.range ms.length).map fun j => V.int (j : Nat) := list_of (by rw [hly, txs_len]) fun j y e => hg j y e
    subst eys
    have hnu10 : H10 D2 = some (.dK (numK ms)) := by
      rw [hDs, txs_len, zip_self_map (fun i => tk (ms.getD i []))]; rfl
    clear hDs hg hly
    have ha10 := r10 _ _ ha9
    have nD2a : D2 ≠ a := ne_of hnu10 ha10 (by intro h; cases h)
    refine ⟨_, rfl, a, C, dx, _, rfl, ha10, CH.cl, CH.nN, (by show 4 < 1000; decide), ?_⟩
    rw [pf5]
    generalize hH11 : upd H10 a (.ins C dx [("signs", .str (S sg)), ("marks", .ref m), ("first", .str (S f)), ("steps", .ref st), ("_numbers", .ref D2)]) = H11
    have k11 : ∀ x o, x ≠ a → H10 x = some o → H11 x = some o := fun x o n e => by rw [← hH11, upd_ne n]; exact e
    have hm11 := k11 _ _ nma (r10 _ _ hm9)
    have hst11 := k11 _ _ nsta (r10 _ _ hst9)
    have hsa11 : ∀ x ∈ ms, H11 (sa x) = some (.tup (txs (sg.map (tg x)))) := fun x hx => k11 _ _ (ne_of (hsa9 x hx) ha9 (by intro h; cases h)) (r10 _ _ (hsa9 x hx))
    have hnu11 := k11 _ _ nD2a hnu10
    have ha11 : H11 a = some (.ins C dx [("signs", .str (S sg)), ("marks", .ref m), ("first", .str (S f)), ("steps", .ref st), ("_numbers", .ref D2)]) := by rw [← hH11, upd_same]
    have kk11 : ∀ x o, x ≠ a → H3 x = some o → H11 x = some o := fun x o n e => k11 _ _ n (r10 _ _ (kk9 _ _ n e))
    clear hH11 k11 hnu10 ha10 r10 hD2 hm9 hst9 hsa9 ha9 kk9
    refine ⟨_, rfl, a, C, dx, _, _, rfl, ha11, CH.cl, CH.nM, (show _ = some (V.ref m) by rfl), ?_⟩
    refine ⟨_, rfl, a, C, dx, _, _, rfl, ha11, CH.cl, CH.nT, (show _ = some (V.ref st) by rfl), ?_⟩
    refine nil1 ⟨.ref m, .ref st, .tup m, .tup st, rfl, rfl, rfl, ⟨_, SqT.of hm11⟩, ⟨_, SqT.of hst11⟩, fun D3 hD3 => ?_⟩
    refine dc_keep (n := min (txs ms).length (ms.map fun x => V.ref (sa x)).length) keep_same (walk_zipX (K := K) (S1 := .tup m) (S2 := .tup st) (xs := txs ms) (ys := ms.map fun x => V.ref (sa x))) hD3 (Nat.lt_of_le_of_lt (Nat.min_le_left _ _) (by rw [txs_len]; exact small1000 (by omega))) (fun i => tk (ms.getD i [])) (fun j y H => ∃ t, y = .ref t ∧ t ≠ D3 ∧ ∀ mm, ms[j]? = some mm → H t = some (.dK (laK sg (tg mm)))) (fun H r => ⟨SqT.of (r _ _ hm11), SqT.of (r _ _ hst11)⟩)
      (fun i j hi hj => key_inj hgd.hnd i j (by rw [txs_len] at hi; exact Nat.lt_of_lt_of_le hi (Nat.min_le_left _ _)) hj)
      (fun _ _ _ _ _ r ⟨t, e, n, h⟩ => ⟨t, e, n, fun mm hm => r _ _ (h mm hm)⟩) (fun _ _ _ _ _ _ _ ⟨t, e, n, h⟩ => ⟨t, e, n, fun mm hm => by rw [upd_ne n]; exact h mm hm⟩) (fun i x H12 H13 acc R hi r hDa hy hR => ?_) (fun ys H12 hly hg r12 hDs => ?_)
    · obtain ⟨t, x1, x2, rfl, ht, rfl, e1, e2⟩ := hy
      obtain ⟨mm, hmm, rfl⟩ := txs_get (show (txs ms)[i]? = some x1 from e1)
      have e2 : (ms.map fun x => V.ref (sa x))[i]? = some x2 := e2
      rw [List.getElem?_map, hmm] at e2
      obtain rfl : V.ref (sa mm) = x2 := Option.some.inj e2
      have hmem := List.mem_of_getElem? hmm
      refine ⟨t, _, rfl, .inl (.inl upd_same), rfl, _, _, rfl, _, _, rfl, rfl, rfl, ?_⟩
      refine ⟨_, rfl, _, rfl, _, rfl, sg, sa mm, txs (sg.map (tg mm)), rfl, SqT.of ((sm_new ht) _ _ (r _ _ (hsa11 mm hmem))), by rw [txs_len, List.length_map], by have := hgd.hsg.2.2.1; omega, fun d2 hd2 => ?_⟩
      rw [la_dict hsgn]
      have hne : d2 ≠ D3 := fun e => by rw [e, upd_ne (ne_of_none hDa ht)] at hd2; rw [hDa] at hd2; cases hd2
      rw [getD_of hmm] at hR
      exact hR _ _ (sm_put' (sm_new ht) hd2) ⟨d2, rfl, hne, fun m2 h2 => by rw [hmm] at h2; cases h2; exact upd_same⟩
    have hly2 : ys.length = ms.length := by rw [hly, txs_len, List.length_map, Nat.min_self]
    obtain ⟨la, hla⟩ := fun_of (γ := Addr) hgd.hnd (P := fun j mm t => ys[j]? = some (V.ref t) ∧ H12 t = some (.dK (laK sg (tg mm)))) fun j mm hj => by
      have hjl : j < ys.length := by rw [hly2]; exact (List.getElem?_eq_some_iff.mp hj).1
      obtain ⟨t, e, _, h⟩ := hg j _ (List.getElem?_eq_getElem hjl)
      exact ⟨t, by rw [List.getElem?_eq_getElem hjl, e], h mm hj⟩
    have eys : ys = ms.map fun x => V.ref (la x) := list_map hly2 fun j y x e1 e2 => by have := (hla j x e2).1; rw [e1] at this; exact Option.some.inj this
    have hla12 : ∀ x ∈ ms, H12 (la x) = some (.dK (laK sg (tg x))) := fun x hx => by obtain ⟨j, hj⟩ := List.getElem?_of_mem hx; exact (hla j x hj).2
    subst eys
    have hle12 : H12 D3 = some (.dK (leK ms la)) := by
      rw [hDs, txs_len, List.length_map, Nat.min_self]
      have e : (ms.map fun x => V.ref (la x)) = (List.range ms.length).map fun i => V.ref (la (ms.getD i [])) := by
        refine (list_of (by rw [List.length_map]) fun j y hy => ?_)
        rw [List.getElem?_map] at hy
        cases q : ms[j]? with
        | none => rw [q] at hy; cases hy
        | some x => rw [q] at hy; cases hy; rw [getD_of q]
      rw [e, zip_self_map (fun i => tk (ms.getD i []))]
      congr 2
      symm
      unfold leK
      refine list_of (f := fun i => (tk (ms.getD i []), V.ref (la (ms.getD i [])))) (by rw [List.length_map]) fun j y hy => ?_
      rw [List.getElem?_map] at hy
      cases q : ms[j]? with
      | none => rw [q] at hy; cases hy
      | some x => rw [q] at hy; cases hy; rw [getD_of q]
    have ha12 := r12 _ _ ha11
    refine ⟨_, rfl, a, C, dx, _, rfl, ha12, CH.cl, CH.nL, (by show 5 < 1000; decide), ?_⟩
    rw [pf6]
    have hR0 : RdrAt C (upd H12 a (.ins C dx (rdF sg m f st D2 D3 []))) a sg ms f tg dx m st D2 D3 sa la [] := by
      refine ⟨upd_same, ?_, ?_, fun x hx => ?_, ?_, ?_, fun x hx => ?_⟩
      · rw [upd_ne nma]; exact r12 _ _ hm11
      · rw [upd_ne nsta]; exact r12 _ _ hst11
      · rw [upd_ne (ne_of (hsa11 x hx) ha11 (by intro h; cases h))]; exact r12 _ _ (hsa11 x hx)
      · rw [upd_ne nD2a]; exact r12 _ _ hnu11
      · rw [upd_ne (ne_of hle12 ha12 (by intro h; cases h))]; exact hle12
      · rw [upd_ne (ne_of (hla12 x hx) ha12 (by intro h; cases h))]; exact hla12 x hx
    have kk13 : ∀ x o, x ≠ a → H3 x = some o → (upd H12 a (.ins C dx (rdF sg m f st D2 D3 []))) x = some o := fun x o n e => by rw [upd_ne n]; exact r12 _ _ (kk11 _ _ n e)
    show (fun H13 => _) (upd H12 a (.ins C dx (rdF sg m f st D2 D3 [])))
    generalize upd H12 a (.ins C dx (rdF sg m f st D2 D3 [])) = H13 at hR0 kk13 ⊢
    refine ⟨_, rfl, _, rfl, a, sg, ms, f, tg, rfl, ⟨dx, m, st, D2, D3, sa, la, [], .inl rfl, hR0⟩, hgd, fun tb ra H14 s14 n14 h14 hra => ?_⟩
    refine ⟨tb, sg, ms, tg, ra, rfl, h14, hra, by omega, hgd.hsg.2.2.1, hsgn, fun co ca H15 s15 n15 hcol => ?_⟩
    have hR2 := hR0.same (s14.trans s15)
    refine ⟨_, rfl, a, C, dx, _, rfl, hR2.ha, CH.cl, CH.nC, (by show 6 < 1000; decide), ?_⟩
    rw [show putF ("_columns" : Str) (V.ref co) (rdF sg m f st D2 D3 []) = rdF sg m f st D2 D3 [("_columns", .ref co)] from pf7 _ _ _ _ _ _ _]
    have nin : ∀ {x : Addr} {o : HO}, H15 x = some o → (∀ c d fs, o ≠ .ins c d fs) → x ≠ a := fun e n z => by rw [z, hR2.ha] at e; exact n _ _ _ (Option.some.inj e).symm
    refine k _ (fun x o n e => by rw [upd_ne n]; exact (s14.trans s15) _ _ (kk13 _ _ n (s13 _ _ e))) ⟨dx, m, st, D2, D3, sa, la, co, ca, ⟨upd_same, ?_, ?_, fun x hx => ?_, ?_, ?_, fun x hx => ?_⟩, ⟨?_, fun c hc => ?_⟩⟩
    · rw [upd_ne (nin hR2.hm (by intro _ _ _ h; cases h))]; exact hR2.hm
    · rw [upd_ne (nin hR2.hst (by intro _ _ _ h; cases h))]; exact hR2.hst
    · rw [upd_ne (nin (hR2.hsa x hx) (by intro _ _ _ h; cases h))]; exact hR2.hsa x hx
    · rw [upd_ne (nin hR2.hnu (by intro _ _ _ h; cases h))]; exact hR2.hnu
    · rw [upd_ne (nin hR2.hle (by intro _ _ _ h; cases h))]; exact hR2.hle
    · rw [upd_ne (nin (hR2.hla x hx) (by intro _ _ _ h; cases h))]; exact hR2.hla x hx
    · rw [upd_ne (nin hcol.hco (by intro _ _ _ h; cases h))]; exact hcol.hco
    · rw [upd_ne (nin (hcol.hca c hc) (by intro _ _ _ h; cases h))]; exact hcol.hca c hc
end
end Toy
set_option maxHeartbeats 2000000
namespace LX
open PySem PySem.Spec PyProof.Rows L2 C8 SX
structure Fit (k n : Nat) (d : PyData) : Prop where
  lay : d.canLay0 = true
  int : d.intsShort 13 = true
  sho : d.showable = true
  dep : d.depth ≤ k
  wei : d.weight ≤ n
theorem Fit.mono {k n k' n' : Nat} {d : PyData} (f : Fit k n d) (hk : k ≤ k') (hn : n ≤ n') : Fit k' n' d := ⟨f.lay, f.int, f.sho, Nat.le_trans f.dep hk, Nat.le_trans f.wei hn⟩
theorem Fit.text {k n : Nat} {l : List Nat} (h : ∀ c ∈ l, c < 1114112) (hn : l.length ≤ n) : Fit k n (.str (S l)) := by
  refine ⟨?_, rfl, rfl, Nat.zero_le _, by simpa [PyData.weight, S] using hn⟩
  show (S l).cps.all (· < 0x110000) = true
  rw [← Array.all_toList, List.all_eq_true]
  exact fun c hc => decide_eq_true (h c hc)
theorem Fit.non {k n : Nat} : Fit k n .none := ⟨rfl, rfl, rfl, Nat.zero_le _, Nat.zero_le _⟩
theorem Fit.bl {k n : Nat} {b : Bool} : Fit k n (.bool b) := ⟨rfl, rfl, rfl, Nat.zero_le _, Nat.zero_le _⟩
theorem Fit.all {k n : Nat} : ∀ {ds : List PyData}, (∀ d ∈ ds, Fit k n d) → PyData.canLayAll0 ds = true ∧ PyData.intsShortAll 13 ds = true ∧ PyData.showableAll ds = true ∧ PyData.depthAll ds ≤ k + 1 ∧ PyData.weightAll ds ≤ ds.length * (n + 1)
  | [], _ => ⟨rfl, rfl, rfl, Nat.zero_le _, Nat.zero_le _⟩
  | d :: ds, h => by
    obtain ⟨h1, h2, h3, h4, h5⟩ := Fit.all (ds := ds) fun x hx => h x (List.mem_cons_of_mem _ hx)
    have f := h d List.mem_cons_self
    refine ⟨?_, ?_, ?_, ?_, ?_⟩
    · show (d.canLay0 && PyData.canLayAll0 ds) = true; rw [f.lay, h1]; rfl
    · show (d.intsShort 13 && PyData.intsShortAll 13 ds) = true; rw [f.int, h2]; rfl
    · show (d.showable && PyData.showableAll ds) = true; rw [f.sho, h3]; rfl
    · have e : PyData.depthAll (d :: ds) = max d.depth (PyData.depthAll ds) ∨ PyData.depthAll (d :: ds) ≤ max (d.depth + 1) (PyData.depthAll ds) := by
        first | exact .inl rfl | exact .inr (by unfold PyData.depthAll; omega)
      have := f.dep
      rcases e with e | e
      · rw [e]; omega
      · omega
    · show d.weight + 1 + PyData.weightAll ds ≤ _
      have := f.wei
      rw [List.length_cons, Nat.add_mul]
      omega
theorem Fit.tup {k n m : Nat} {ds : List PyData} (h : ∀ d ∈ ds, Fit k n d) (hm : ds.length ≤ m) : Fit (k + 2) (m * (n + 1)) (.tuple ds) := by
  obtain ⟨h1, h2, h3, h4, h5⟩ := Fit.all h
  refine ⟨h1, h2, h3, ?_, Nat.le_trans h5 (Nat.mul_le_mul_right _ hm)⟩
  show PyData.depthAll ds + 1 ≤ _
  omega
theorem Fit.lst {k n m : Nat} {ds : List PyData} (h : ∀ d ∈ ds, Fit k n d) (hm : ds.length ≤ m) : Fit (k + 2) (m * (n + 1)) (.list ds) := by
  obtain ⟨h1, h2, h3, h4, h5⟩ := Fit.all h
  refine ⟨h1, h2, h3, ?_, Nat.le_trans h5 (Nat.mul_le_mul_right _ hm)⟩
  show PyData.depthAll ds + 1 ≤ _
  omega
theorem Fit.size {k n : Nat} {d : PyData} (f : Fit k n d) (hn : n ≤ 1000000) : d.shown.length ≤ sizeLine := by
  have h := PyData.shown_le 13 (by decide) d (PyData.leavesShort_of_canLay0 13 d f.lay f.int)
  have := f.wei
  have e : sizeLine = 16777216 := rfl
  omega
theorem Fit.shaped {k n : Nat} {d : PyData} (f : Fit k n d) (hk : k ≤ 60) (h : (∃ ds, d = .tuple ds) ∨ ∃ ds, d = .list ds) : SeqAt.shaped d = true := by
  rcases h with ⟨ds, rfl⟩ | ⟨ds, rfl⟩
  · show (PyData.canLayAll0 ds && decide (PyData.depthAll ds + 1 ≤ 64)) = true
    have h1 : PyData.canLayAll0 ds = true := f.lay
    have h2 : PyData.depthAll ds + 1 ≤ k := f.dep
    rw [h1, Bool.true_and, decide_eq_true_eq]; omega
  · show (PyData.canLayAll0 ds && decide (PyData.depthAll ds + 1 ≤ 64)) = true
    have h1 : PyData.canLayAll0 ds = true := f.lay
    have h2 : PyData.depthAll ds + 1 ≤ k := f.dep
    rw [h1, Bool.true_and, decide_eq_true_eq]; omega
section
variable {X : Cx} {j : Nat}
theorem call_reprF (gd : X.A.guards = some []) (room : Room j X.A) (K : PySem.W.Frag) (hK : X.K = K := by rfl) : CallR X (.builtin "repr") (fun xs H Q => ∃ (a : Addr) (d : PyData) (k n : Nat), xs = [.ref a] ∧ Dp K H (.ref a) d ∧ Fit k n d ∧ k ≤ 60 ∧ n ≤ 1000000 ∧ Q (.str d.shown) H) := by
  subst hK
  intro pins s σ H xs us Q I rel want
  obtain ⟨a, d, k, n, rfl, hd, f, hk, hn, q⟩ := want
  exact call_reprG gd room pins s σ H _ us Q I rel ⟨a, d, rfl, hd, f.sho, PyData.hasDict_of_canLay d f.lay, Nat.le_trans f.dep hk, f.size hn, q⟩
end
mutual
theorem Dp.same {K : PySem.W.Frag} {H H' : Hp} (s : Same H H') : ∀ {d : PyData} {v : V}, Dp K H v d → Dp K H' v d
  | .none, _, h => by cases h; exact .non
  | .bool _, _, h => by cases h; exact .bl _
  | .int _, _, h => by cases h; exact .int _
  | .str _, _, h => by cases h; exact .str _
  | .list _, _, h => by cases h with | lst q r => exact .lst (s.seq q) (DpAll.same s r)
  | .tuple _, _, h => by cases h with | tup q r => exact .tup (sm_seqT s q) (DpAll.same s r)
  | .dict _, _, h => by cases h
theorem DpAll.same {K : PySem.W.Frag} {H H' : Hp} (s : Same H H') : ∀ {ds : List PyData} {vs : List V}, DpAll K H vs ds → DpAll K H' vs ds
  | [], _, h => by cases h; exact .nil
  | _ :: _, _, h => by cases h with | cons q r => exact .cons (Dp.same s q) (DpAll.same s r)
end
theorem dpAll_get {K : PySem.W.Frag} {H : Hp} {α : Type} {f : α → V} {g : α → PyData} : ∀ {xs : List α}, (∀ x ∈ xs, Dp K H (f x) (g x)) → DpAll K H (xs.map f) (xs.map g)
  | [], _ => .nil
  | x :: xs, h => .cons (h x List.mem_cons_self) (dpAll_get fun y hy => h y (List.mem_cons_of_mem _ hy))
end LX
set_option maxHeartbeats 2000000
namespace LX
open PySem PySem.Spec PyProof.Rows L2 C8 SX
section
variable {X : Cx}
theorem pe_joinK (K : PySem.W.Frag) {o e : Expr} {to te : TE} {apos pos : Pos} (ho : PE X o to) (he : PE X e te) (hK : X.K = K := by rfl) (hs : starEach [e] X.env = [(false, eval e X.env)] := by rfl) (hbase : attributeBase o "join" X.env (eval o X.env) = eval o X.env := by rfl) (hline : (apos.endLine == pos.line) = true := by rfl) :
    PE X (.Call (.Attribute o "join" apos) [e] [] pos) (tM1 (fun x xs H Q => ∃ a p, ∃ ys : List Str, x = .str a ∧ xs = [.ref p] ∧ (SqL K H p (ys.map V.str) ∨ SqT K H p (ys.map V.str)) ∧
      (ys.map (·.length)).sum + ys.length * a.length ≤ 16777216 ∧ Q (.str (Txt.join a ys)) H) to te) := by subst hK; exact pe_join ho he hs hbase hline
end
def tJd (ts : List TE) : TE := fun σ H Q => tJs ts Str.empty σ H fun out H1 => Q (.str out) H1
theorem pe_joinedD {X : Cx} {v1 v2 : Expr} {rest : List Expr} {ts : List TE} {pos : Pos} (h : PJ X (v1 :: v2 :: rest) ts) : PE X (.JoinedStr (v1 :: v2 :: rest) pos) (tJd ts) := pe_joined h
theorem joinL_len {sep : List Nat} {m : Nat} : ∀ {ys : List (List Nat)}, (∀ y ∈ ys, y.length ≤ m) → (TL.joinL sep ys).length ≤ ys.length * (m + sep.length)
  | [], _ => by simp [TL.joinL]
  | [y], h => by
    have := h y List.mem_cons_self
    simp [TL.joinL]
    omega
  | y :: z :: ys, h => by
    have ih := joinL_len (sep := sep) (ys := z :: ys) fun x hx => h x (List.mem_cons_of_mem _ hx)
    have h1 := h y List.mem_cons_self
    have e : TL.joinL sep (y :: z :: ys) = y ++ sep ++ TL.joinL sep (z :: ys) := by simp [TL.joinL]
    rw [e, List.length_append, List.length_append, List.length_cons, Nat.add_mul]
    omega
theorem sum_lens {m : Nat} : ∀ {ys : List (List Nat)}, (∀ l ∈ ys, l.length ≤ m) → ((ys.map S).map (·.length)).sum ≤ ys.length * m
  | [], _ => by simp
  | y :: ys, h => by
    have ih := sum_lens (m := m) (ys := ys) fun l hl => h l (List.mem_cons_of_mem _ hl)
    have h0 := h y List.mem_cons_self
    simp only [List.map_cons, List.sum_cons, List.length_cons]
    rw [S_len, Nat.add_mul]
    omega
theorem joinS_ok {m n : Nat} {sep : List Nat} {ys : List (List Nat)} (h : ∀ l ∈ ys, l.length ≤ m) (hn : ys.length ≤ n) (hm : n * (m + sep.length) ≤ 16000000) : ((ys.map S).map (·.length)).sum + (ys.map S).length * (S sep).length ≤ 16777216 := by
  rw [S_len, List.length_map]
  have := sum_lens h
  have h2 : ys.length * (m + sep.length) ≤ n * (m + sep.length) := Nat.mul_le_mul_right _ hn
  rw [Nat.mul_add] at h2
  omega
end LX
set_option maxHeartbeats 2000000
namespace LX
open PySem PySem.Spec PyProof.Rows L2 C8 SX
section
variable {X : Cx} {k j : Nat} {C : Addr} {sp : Sp}
theorem met_runV {mth : Str} {pins : List (Addr × Obj)} {σ : L2.St} {H : Hp} {s : Shared} {A : Around} {a : Addr} {y : V} {u : Value} {Q : Value → Shared → Prop} (c : Met X.prog X.w X.K X.mg X.base k C mth sp []) (hr : Room k A) (hfr : A.frames = X.A.frames) (I : Inv X pins σ H s) (ry : RelV y u)
    {R : VK} (hsp : sp [.ref a, y] H R C8.E0) (hQ : ∀ v z H' s', Inv X pins σ H' s' → RelV z v → R z H' → Q v s') :
    ∃ f, PySem.W.findIn X.K (.ref C) mth = some (some (.ref f)) ∧ PySem.W.isFn X.K (.ref f) = true ∧ wpAny (model X.prog X.w) A (call (.ref f) [.ref a, u]) Q X.xe s := by
  obtain ⟨f, fd, ps, ds, hc, hm, F, hb, hd⟩ := c.ex
  refine ⟨f, hm.at_, hm.fn, ?_⟩
  have e0 : Env0 X.prog X.w X.K X.mg X.base A X.stack s H := by
    have e := I.env0
    exact ⟨by rw [hfr]; exact e.frames, e.mod, e.bs, e.bsz, e.funs, e.frf, e.hok, e.bare⟩
  have hds : ds = [] := by cases hd; rfl
  subst hds
  have hl := F.len _ _ _ _ hsp
  have r2 : Vals [V.ref a, y] [Value.ref a, u] := .cons rfl (.cons ry .nil)
  refine wpAny_call (codeAny_mono (F.run A X.stack s H ⟨[.ref a, u], []⟩ [.ref a, u] [.ref a, y] _ C8.E0 hr e0 (by
    have := hb s [.ref a, u] I.kIn (by simpa using hl)
    simpa using this) r2 hsp) fun r s' hq => ?_)
  cases r with
  | error e => exact C8.pass0 (E := C8.E0) pins σ H s e s' I hq
  | ok fl =>
    cases fl with
    | ret w =>
      obtain ⟨z, H', I', rz, q⟩ := I.after hq
      exact hQ w z H' s' I' rz q
    | next => exact False.elim hq
    | brk => exact False.elim hq
    | cont => exact False.elim hq
def rEqIV (K : PySem.W.Frag) (C : Addr) (sp : Sp) : R2 := fun x y H Q => ∃ a dx fs t, x = .ref a ∧ H a = some (.ins C dx fs) ∧ TyX K H y t ∧ PySem.W.notFirst K C t = true ∧ sp [.ref a, y] H (fun v H' => ∃ r, v = .bl r ∧ Q (.bl r) H') C8.E0
theorem op_eqIV (c : Met X.prog X.w X.K X.mg X.base k C "__eq__" sp []) (hr : Room j X.A) (hk : k ≤ j) : OpR X (compareOp .Eq) (rEqIV X.K C sp) := by
  intro pins s σ H x y v u Q I rx ry h
  obtain ⟨a, dx, fs, t, rfl, ha, hty, hnf, hsp⟩ := h
  cases rx
  obtain ⟨mA, J, _⟩ := ins_get I.hok ha
  obtain ⟨od, J, _⟩ := J.look
  obtain ⟨m, hF⟩ := I.fr
  obtain ⟨P, kx, hP, _⟩ := kit_of I ry hty
  obtain ⟨f, hs, hf, hw⟩ := met_runV (Q := PySem.W.CmpBack (EP X pins σ Q)) c (hr.mono hk) rfl I ry hsp (fun v z H' s' I' rz q => by
    obtain ⟨r, rfl, q⟩ := q
    cases rz
    exact ⟨.bl r, H', I', rfl, q⟩)
  exact PySem.W.cmp_K (op := .Eq) (tb := t) hr.units0 hF I.ok.mod.kin J (kx.ty _ _ I.kIn hP) hnf hs hf hw
theorem op_eqDK (K : PySem.W.Frag) (hr : Room j X.A) (h : X.K = K := by rfl) : OpR X (compareOp .Eq) (rEqD K) := by subst h; exact op_eqD hr.units
theorem op_neDK (K : PySem.W.Frag) (hr : Room j X.A) (h : X.K = K := by rfl) : OpR X (compareOp .NotEq) (rNeD K) := by subst h; exact op_neD hr.units
end
def tD (xs : List (List Nat)) : PyData := .tuple (xs.map fun l => .str (S l))
def ttD (xss : List (List (List Nat))) : PyData := .tuple (xss.map tD)
theorem dp_t {K : PySem.W.Frag} {H : Hp} {a : Addr} {xs : List (List Nat)} (h : SqT K H a (txs xs)) : Dp K H (.ref a) (tD xs) := .tup h (dp_strs xs)
theorem eqv_t (xs ys : List (List Nat)) : PyData.eqv (tD xs) (tD ys) = decide (xs = ys) := eqv_strs xs ys
theorem eqv_tts : ∀ xss yss : List (List (List Nat)), PyData.eqvAll (xss.map tD) (yss.map tD) = decide (xss = yss)
  | [], [] => rfl
  | [], _ :: _ => rfl
  | _ :: _, [] => rfl
  | x :: xs, y :: ys => by
    show (PyData.eqv (tD x) (tD y) && PyData.eqvAll (xs.map tD) (ys.map tD)) = _
    rw [eqv_t, eqv_tts xs ys, ← Bool.decide_and]
    exact decide_eq_decide.mpr (by rw [List.cons.injEq])
theorem eqv_tt (xss yss : List (List (List Nat))) : PyData.eqv (ttD xss) (ttD yss) = decide (xss = yss) := eqv_tts xss yss
theorem fit_t {m n : Nat} {xs : List (List Nat)} (hs : Small xs) (hl : ∀ l ∈ xs, l.length ≤ n) (hm : xs.length ≤ m) : Fit 2 (m * (n + 1)) (tD xs) :=
  Fit.tup (k := 0) (n := n) (fun d hd => by obtain ⟨l, hl', rfl⟩ := List.mem_map.mp hd; exact Fit.text (hs l hl') (hl l hl')) (by rw [List.length_map]; exact hm)
theorem fit_tt {m n p : Nat} {xss : List (List (List Nat))} (h : ∀ xs ∈ xss, Small xs ∧ (∀ l ∈ xs, l.length ≤ n) ∧ xs.length ≤ m) (hp : xss.length ≤ p) : Fit 4 (p * (m * (n + 1) + 1)) (ttD xss) :=
  Fit.tup (k := 2) (fun d hd => by obtain ⟨xs, hx, rfl⟩ := List.mem_map.mp hd; obtain ⟨h1, h2, h3⟩ := h xs hx; exact fit_t h1 h2 h3) (by rw [List.length_map]; exact hp)
end LX
set_option maxHeartbeats 4000000
namespace EV
open PySem PySem.HandSPX
open Builtin Builtin.ObjectAttr
section
variable {M : Model} {A : Around} {E : Value → Shared → Prop} {h : Heap} {g : Array GenState} {d : Drawn} {t : Nat} {os : OsState}
variable {nm q : Str} {C N : Addr} {bs bm bmB : List Value} {hdct : Bool} {sn : List Str} {sub : List Value} {ab : Bool} {col : Option Bool} {dd : Option Addr} {k0 k1 k2 k3 k5 : Option Value} {B newId initId : String}
theorem check_new_kw (F : ExcBaseFacts B newId initId bmB) (hB : bm.contains (.type B) = true) {rest : List Value} {kw : List (Str × Value)} {Q : Unit → Shared → Prop}
    (hC : h.get? C = some (excClassObj nm q C N bs bm hdct sn sub ab col dd k0 k1 k2 k3 k5 newId)) (hq : Q () ⟨h, g, d, t, os⟩) : wpAny M A (checkBuiltinCall newId ⟨.ref C :: rest, kw⟩) Q E ⟨h, g, d, t, os⟩ := by
  have hcont : (Value.ref C :: bm).contains (.type B) = true := by rw [List.contains_cons, hB, Bool.or_true]
  have hstar := F.noStar
  simp only [checkBuiltinCall, F.newKind, F.newSplit, F.newRow]
  repeat (first | refine wpAny_loadPart_at hC ?_ | (refine wpAny_isSubtype_exc hC ?_; rw [hcont]) | refine wpAny_staticBase_exc hC ?_ | refine wpAny_madeBy_exc hC ?_ | simp only [bne_self_eq_false, Bool.false_eq_true, if_false] | wp_step)
  exact hq
end
section
variable {prog : Program} {w : World} {A : Around} {E : Value → Shared → Prop} {R : Result → Shared → Prop} {h : Heap} {g : Array GenState} {d : Drawn} {t : Nat} {os : OsState}
variable {nm q : Str} {C N : Addr} {bs bm bmB : List Value} {hdct : Bool} {sn : List Str} {sub : List Value} {ab : Bool} {col : Option Bool} {dd : Option Addr} {k0 k1 k2 k3 k5 : Option Value} {B newId initId : String}
theorem new_kw (F : ExcBaseFacts B newId initId bmB) (hB : bm.contains (.type B) = true) (hA : bm.contains (.type "AttributeError") = false) (hN : bm.contains (.type "NameError") = false) {rest : List Value} {kw : List (Str × Value)}
    (hC : h.get? C = some (excClassObj nm q C N bs bm hdct sn sub ab col dd k0 k1 k2 k3 k5 newId))
    (hq : R (.ok (.ret (.ref (h.objs.size + 1)))) ⟨(h.push { cls := .type "tuple", data := .seq rest.toArray }).push
      { cls := .ref C, data := .fields #[.ref h.objs.size, .none, .none, .none, .bool false, .none] }, g, d, t, os⟩) (hrest : rest.length ≤ sizeLine) :
    codeAny (model prog w) A (.builtin newId ⟨.ref C :: rest, kw⟩) R ⟨h, g, d, t, os⟩ := by
  have hends := F.ends
  have hcB : (Value.ref C :: bm).contains (.type B) = true := by rw [List.contains_cons, hB, Bool.or_true]
  have hcA : (Value.ref C :: bm).contains (.type "AttributeError") = false := by rw [List.contains_cons, hA]; rfl
  have hcN : (Value.ref C :: bm).contains (.type "NameError") = false := by rw [List.contains_cons, hN]; rfl
  refine codeAny_builtinAt F.entry ?_
  unfold Builtin.«BaseException.__new__»
  refine wpAt_bind ?_
  show wpAt _ _ _ (stack >>= _) _ _ _
  refine wpAt_bind (wpAt_stack fun p below => wpAt_of_wpAny ?_)
  wp_walk
  refine wpAt_of_wpAny ?_
  rw [F.owner]
  repeat (first | with_reducible refine wpAny_madeHere_exc F.canon hC ?_ | with_reducible refine wpAny_loadPart_at hC ?_ | (with_reducible refine wpAny_isSubtype_exc hC ?_; first | rw [hcB] | rw [hcA] | rw [hcN]) | wp_step)
  show R _ _
  rw [Heap.size_push]
  exact hq
theorem type_call_kw (F : ExcBaseFacts B newId initId bmB) (hB : bm.contains (.type B) = true) (hA : bm.contains (.type "AttributeError") = false) (hN : bm.contains (.type "NameError") = false) {rest : List Value} {kw : List (Str × Value)} {fI : Addr} {Q : Fin → Shared → Prop}
    (hC : h.get? C = some (excClassObj nm q C N bs bm hdct sn sub ab col dd k0 k1 k2 k3 k5 newId))
    (hi : W.Looks (model prog w) h (typeLookup (.ref C) "__init__") (some (.ref fI))) (hb : ∀ self, W.Looks (model prog w) h (bindSpecial (.ref fI) self) (.ref fI, [self])) (hrest : rest.length ≤ sizeLine)
    (hq : codeAny (model prog w) A (.call (.ref fI) ⟨.ref (h.objs.size + 1) :: rest, kw⟩)
      (fun r s' => match r with | .ok (.ret v) => v = .none ∧ Q (.done (.ret (.ref (h.objs.size + 1)))) s' | .ok _ => False | .error e => E e s')
      ⟨(h.push (W.kdv_tup rest)).push (excO C h.objs.size), g, d, t, os⟩) :
    wpAny (model prog w) A (Builtin.«type.__call__» ⟨.ref C :: rest, kw⟩) Q E ⟨h, g, d, t, os⟩ := by
  repeat (first | with_reducible refine wpAny_loadPart_at hC ?_ | with_reducible refine wpAny_madeBy_exc hC ?_ | wp_step)
  refine codeAny_call_builtin_code (Code.quiet_builtin _ F.quiet) (check_new_kw F hB hC ?_)
  refine new_kw F hB hA hN hC ?_ hrest
  show wpAny _ _ _ _ _ _
  have k : ∀ b o, h.get? b = some o → ((h.push (W.kdv_tup rest)).push (excO C h.objs.size)).get? b = some o := fun b o e => Heap.get?_push_of_some _ (Heap.get?_push_of_some _ e)
  have hC₁ := k _ _ hC
  have hget : ((h.push (W.kdv_tup rest)).push (excO C h.objs.size)).get? (h.objs.size + 1) = some (excO C h.objs.size) := by heap_get
  have hcC : (Value.ref C :: bm).contains (.ref C) = true := by simp
  have i1 := hi.keeps k
  have b1 := (hb (.ref (h.objs.size + 1))).keeps k
  unfold isInstance
  repeat (first | with_reducible refine wpAny_loadPart_at hget ?_ | (with_reducible refine wpAny_isSubtype_exc hC₁ ?_; rw [hcC]) | wp_step)
  show wpAny _ _ (typeLookup (.ref C) _) _ _ _
  refine i1.at ?_
  refine wpAny_holding (wpAny_bind (b1.at ?_))
  refine wpAny_bind (wpAny_call (codeAny_mono hq fun r s' z => ?_))
  rcases r with e | (v | _ | _ | _) <;> first | exact z | exact z.elim | skip
  obtain ⟨rfl, z⟩ := z
  first
    | exact wpAny_pure (wpAny_pure z)
    | (wp_walk; exact z)
theorem call_kw (F : ExcBaseFacts B newId initId bmB) (hB : bm.contains (.type B) = true) (hA : bm.contains (.type "AttributeError") = false) (hN : bm.contains (.type "NameError") = false) {rest : List Value} {kw : List (Str × Value)} {fI : Addr}
    (hC : h.get? C = some (excClassObj nm q C N bs bm hdct sn sub ab col dd k0 k1 k2 k3 k5 newId))
    (hi : W.Looks (model prog w) h (typeLookup (.ref C) "__init__") (some (.ref fI))) (hb : ∀ self, W.Looks (model prog w) h (bindSpecial (.ref fI) self) (.ref fI, [self])) (hrest : rest.length ≤ sizeLine)
    (hq : codeAny (model prog w) (A.under (.builtin "type.__call__" ⟨.ref C :: rest, kw⟩)) (.call (.ref fI) ⟨.ref (h.objs.size + 1) :: rest, kw⟩) (W.InitBack (h.objs.size + 1) R)
      ⟨(h.push (W.kdv_tup rest)).push (excO C h.objs.size), g, d, t, os⟩) :
    codeAny (model prog w) A (.call (.ref C) ⟨rest, kw⟩) R ⟨h, g, d, t, os⟩ := by
  have f1 := tc_lookup
  have f2 := tc_bind (.ref C)
  have hTy : (⟨h, g, d, t, os⟩ : Shared).TypeIs (.ref C) "type" := ⟨_, hC, rfl⟩
  refine codeAny_of_tree ?_
  show wpAny _ _ (callAny (.ref C) _) _ _ _
  repeat (any_goals (first | assumption | with_reducible refine wpAny_loadPart_at hC ?_ | wp_step))
  refine ⟨rfl, ?_⟩
  refine codeAny_call_builtin_at (Code.quiet_builtin _ (by decide +kernel)) entry_typeCall (wpAny_check_type_call_sub hC (type_call_kw F hB hA hN hC hi hb hrest ?_))
  refine codeAny_mono hq fun r s' z => ?_
  rcases r with e | (v | _ | _ | _) <;> exact z
end
section
variable {prog : Program} {w : World} {A : Around} {E : Value → Shared → Prop} {R : Result → Shared → Prop} {hp : Heap} {g : Array GenState} {d : Drawn} {t : Nat} {os : OsState}
theorem exc_osaG {K : W.Frag} {name : Str} {tk : Tok} {v : Value} {x C : Addr} {fv : Array Value} {cd : ClassData}
    (X : K.In hp) (hx : hp.get? x = some { cls := .ref C, data := .fields fv }) (hcd : W.clsIn K C = some cd) (hm : ∀ self, refuseLoop self "__setattr__" cd.mro = pure ()) (ne : cd.mro.isEmpty = false) (hob : cd.mro.contains (.type "object") = true) (hh : cd.hasDict = true) (ha : W.findIn K (.ref C) name = some none)
    (hq : ∀ h' tk' dx, (∀ b o, b ≠ x → hp.get? b = some o → h'.get? b = some o) → hp.objs.size ≤ dx → dx ≠ x → h'.get? x = some { cls := .ref C, dict := some dx, data := .fields fv } →
      h'.Ns1 dx (fun y => if y = name then some v else none) → R (.ok (.ret .none)) ⟨h', g, d, tk', os⟩) :
    codeAny (model prog w) A (.call (.builtin "object.__setattr__") ⟨[.ref x, .str name tk, v], []⟩) R ⟨hp, g, d, t, os⟩ := by
  have I : W.InstAt hp x { cls := .ref C, data := .fields fv } C none := ⟨hx, rfl, rfl, trivial⟩
  have SF := F.store_object
  have hxs : x ≠ hp.objs.size := Nat.ne_of_lt (Heap.lt_size hx)
  have sub : W.Looks (model prog w) hp (isInstance (.ref x) (.type "object")) true := I.type.andThen (W.looks_mroIn X (by unfold W.mroIn; rw [hcd, Option.bind_some, if_neg (by rw [ne]; decide), hob]))
  refine codeAny_call_builtin SF.slot.plain SF.entry (@W.check_slot (model prog w) _ _ ⟨hp, g, d, t, os⟩ "object.__setattr__" "object" "__setattr__" (.ref x) [.str name tk, v] [] _ SF.kind SF.split sub (SF.args (.ref x) (.str name tk) v) ?_)
  have hmr : W.Looks (model prog w) hp (mroOf (.ref C)) cd.mro := (W.looks_clsIn X hcd).andThen .now
  have L3 : W.Looks (model prog w) hp (storeTaker? none) none := .now
  have hcls : W.Looks (model prog w) hp (classData C) cd := W.looks_clsIn X hcd
  rw [W.osa_eq, refuse_eq]
  refine wpAny_bind (wpAny_bind (I.type.at (wpAny_bind (hmr.at ?_))))
  rw [hm]
  refine wpAny_pure (wpAny_bind (I.type.at (wpAny_bind ((W.looks_findIn X ha).at (wpAny_bind (L3.at ?_))))))
  show wpAny _ _ (storeInOwnDict (.ref x) (.ref C) (.str name tk) name v false) _ _ _
  obtain ⟨nm, bs, mro, ns, qn, hd, sn, sb, ab, col, del⟩ := cd
  dsimp only at hh
  subst hh
  unfold storeInOwnDict ownDictForStores
  repeat (first | with_reducible refine store_in_new ?_ ?_ | with_reducible refine wpAny_loadPart_at hx ?_ | with_reducible refine hcls.at ?_ | wp_step)
  · exact ⟨_, #[], _, (Heap.get?_update_ne _ _ _ _ hxs.symm).trans (Heap.get?_push_at rfl rfl), rfl, fun e he => absurd he (by simp), fun _ => rfl⟩
  · intro h' tk' hn' hs
    have hx₁ : (hp.push { cls := .type "dict", data := .dict #[] }).get? x = some { cls := .ref C, data := .fields fv } := Heap.get?_push_of_some _ hx
    refine hq h' tk' hp.objs.size (fun b o hb ho => ?_) (Nat.le_refl _) hxs.symm ?_ hn'
    · exact (hs.2 b (Nat.ne_of_lt (Heap.lt_size ho))).trans ((Heap.get?_update_ne _ _ _ _ hb).trans (Heap.get?_push_of_some _ ho))
    · exact (hs.2 x hxs).trans (Heap.get?_update_self _ hx₁ rfl)
end
end EV
namespace EV
open PySem PySem.W PySem.Calls PyProof.Rows PySem.HandSPX
section
variable {prog : Program} {w : World} {A : Around} {E : Value → Shared → Prop} {s : Shared} {K : Frag} {x D : Addr} {ox : Obj} {od : Option Obj}
theorem findObj_dataD {C : Addr} {name : Str} {a g : Value} (hc : (clsIn K C).isSome = true) (ha : findIn K (.ref C) name = some (some a)) (hg : specialIn K a "__get__" = some (some g)) (ht : takesIn K a = some true) : findObj K C od name = some (.bind g a) := by
  obtain ⟨cd, hc⟩ := Option.isSome_iff_exists.mp hc
  unfold findObj
  rw [hc, Option.bind_some, ha, Option.bind_some]
  cases od <;> simp [hg, ht]
theorem kin_classD {Q : Option Value → Shared → Prop} (hga : findIn K (.ref D) "__getattribute__" = some (some (.builtin "BaseException.__getattribute__"))) (hgt : findIn K (.ref D) "__getattr__" = some none) (hsub : subIn K (.ref D) (.type "BaseException") = some true)
    (hdct : hasDictIn K D = true) (ha : findIn K (.ref D) "__class__" = some (some (.builtin "object.__class__")))
    (hn : specialIn K (.builtin "object.__class__") "__get__" = some (some (.builtin "getset_descriptor.__get__"))) (htk : takesIn K (.builtin "object.__class__") = some true) (hm : mroIn K D (.type "object") = some true)
    (X : K.In s.heap) (I : InstAt s.heap x ox D od) (h : Q (some (.ref D)) { s with toks := s.toks + 1 }) : wpAny (model prog w) A (getAttr? (.ref x) "__class__") Q E s := by
  have hf : findObj K D od "__class__" = some (.bind (.builtin "getset_descriptor.__get__") (.builtin "object.__class__")) := findObj_dataD (by obtain ⟨cd, hc, _⟩ := any_some hdct; rw [hc]; rfl) ha hn htk
  obtain ⟨hp, g, d, t, os⟩ := s
  have L0 := I.type (M := model prog w)
  have L1 := looks_findIn (M := model prog w) X hga
  have L2 := looks_findIn (M := model prog w) X hgt
  have L3 := looks_find (M := model prog w) X I hf
  have sub : Looks (model prog w) hp (isInstance (.ref x) (.type "BaseException")) true := L0.andThen (looks_subIn X hsub)
  have hx0 : (false && onTheHeap (Value.builtin "BaseException.__getattribute__")) = false := rfl
  have hx2 : (Value.builtin "BaseException.__getattribute__" == Value.builtin "object.__getattribute__") = false := by decide +kernel
  have hx1 : (onTheHeap (Value.ref D) && Value.builtin "BaseException.__getattribute__" == Value.builtin "object.__getattribute__") = false := by rw [hx2]; rfl
  unfold getAttr? getAttrBy? getAttrBy
  refine wpAny_bind (wpAny_mkText (wpAny_bind (wpAny_attempt (wpAny_holding (wpAny_bind (L0.at (wpAny_bind (L1.at ?_))))))))
  show wpAny _ _ (if (onTheHeap (Value.ref D) && Value.builtin "BaseException.__getattribute__" == Value.builtin "object.__getattribute__") = true then _ else _) _ _ _
  rw [hx1, if_neg Bool.false_ne_true]
  unfold getAttrByItsOwn hookBefore
  refine wpAny_bind ?_
  rw [if_pos (show onTheHeap (Value.ref D) = true from rfl)]
  refine L2.at ?_
  refine wpAny_bind (wpAny_attempt (wpAny_holding ?_))
  unfold callGetattribute
  rw [hx0, if_neg Bool.false_ne_true]
  unfold boundAndCalled
  rw [PySem.F.excAttr_ValueError.ga.bind (.ref x)]
  refine wpAny_bind (wpAny_pure ?_)
  show wpAny _ _ (call (.builtin "BaseException.__getattribute__") [.ref x, .str "__class__" t]) _ _ _
  refine wpAny_call (codeAny_call_builtin PySem.F.excAttr_ValueError.ga.plain PySem.F.entry_bexc_ga ?_)
  refine @check_slot (model prog w) _ _ ⟨hp, g, d, t + 1, os⟩ "BaseException.__getattribute__" "BaseException" "__getattribute__" (.ref x) [.str "__class__" t] [] _ (by decide +kernel) (by decide +kernel) sub (PySem.F.args_bexc_ga (.ref x) (.str "__class__" t)) ?_
  unfold Builtin.«object.__getattribute__»
  refine wpAny_bind (wpAny_of_eq (a := ((Value.ref x : Value), [Value.str "__class__" t])) (by first | rfl | (simp only [slotArgs]; rfl)) ?_)
  refine wpAny_bind (wpAny_pure (wpAny_bind (L0.at (wpAny_bind (L3.at ?_)))))
  show wpAny _ _ (holding [Value.builtin "object.__class__"] (call (.builtin "getset_descriptor.__get__") [.builtin "object.__class__", .ref x, .ref D]) >>= ret) _ _ _
  refine wpAny_bind (wpAny_holding (wpAny_call (class_get (s := ⟨hp, g, d, t + 1, os⟩) (ox := ox) (od := od) X I hm ?_)))
  refine wpAny_pure ?_
  show wpAny _ _ (handedOut (.ref D)) _ _ _
  rw [handedOut_of (v := .ref D) rfl]
  first
    | exact wpAny_pure (wpAny_pure h)
    | exact wpAny_pure h
    | exact wpAny_pure (wpAny_bind (wpAny_pure (wpAny_pure h)))
theorem kitx_excD (hga : findIn K (.ref D) "__getattribute__" = some (some (.builtin "BaseException.__getattribute__"))) (hgt : findIn K (.ref D) "__getattr__" = some none) (hsub : subIn K (.ref D) (.type "BaseException") = some true) (hdct : hasDictIn K D = true) (ha : findIn K (.ref D) "__class__" = some (some (.builtin "object.__class__")))
    (hn : specialIn K (.builtin "object.__class__") "__get__" = some (some (.builtin "getset_descriptor.__get__"))) (htk : takesIn K (.builtin "object.__class__") = some true) (hm : mroIn K D (.type "object") = some true) :
    KitX K (.ref x) (.ref D) (fun h => InstAt h x ox D od) where
  ty := fun _ _ _ I => I.type
  it := fun _ _ X _ => by
    obtain ⟨cdD, hcD, _⟩ := any_some hdct
    unfold clsIn at hcD
    split at hcD
    · rename_i c' d' cd' sl' ho
      intro A' Q' E' s' k q
      unfold isType loadHead
      exact wpAny_bind (wpAny_loadPart (k _ _ (X _ _ ho)) (wpAny_pure q))
    · cases hcD
  ne := fun h tp dd its n sl X htp => by
    obtain ⟨cdD, hcD, _⟩ := any_some hdct
    refine Bool.eq_false_iff.mpr fun q => ?_
    have e : D = tp := Value.ref.inj (beq_iff_eq.mp q)
    subst e
    unfold clsIn at hcD
    split at hcD
    · rename_i c' d' cd' sl' ho
      have z := (X _ _ ho).symm.trans htp
      cases z
    · cases hcD
  ca := fun X I k => kin_classD hga hgt hsub hdct ha hn htk hm X I k
end
end EV
set_option maxHeartbeats 4000000
namespace LX
open PySem PySem.Spec PyProof.Rows L2 C8 SX
structure XC (K : PySem.W.Frag) (C : Addr) : Prop where
  obj : ∃ (tail bmF : List Value) (B newId initId : String), ExcBaseFacts B newId initId bmF ∧ PySem.W.excInitIn K C tail newId = true ∧ tail.contains (.type B) = true ∧ tail.contains (.type "AttributeError") = false ∧ tail.contains (.type "NameError") = false ∧
    tail.contains (.type "object") = true ∧ ∀ self, PySem.refuseLoop self "__setattr__" tail = pure ()
  hd : PySem.W.hasDictIn K C = true
  sa : PySem.W.findIn K (.ref C) "__setattr__" = some (some (.builtin "object.__setattr__"))
  ga : PySem.W.findIn K (.ref C) "__getattribute__" = some (some (.builtin "BaseException.__getattribute__"))
  gg : PySem.W.findIn K (.ref C) "__getattr__" = some none
  exC : PySem.W.subIn K (.ref C) (.type "BaseException") = some true
  tyC : PySem.W.typeIn K (.ref C) = some (.type "type")
  kC : PySem.W.keepIn K (.ref C) = true
  ha : PySem.W.findIn K (.ref C) "__class__" = some (some (.builtin "object.__class__"))
  hn : PySem.W.specialIn K (.builtin "object.__class__") "__get__" = some (some (.builtin "getset_descriptor.__get__"))
  ht : PySem.W.takesIn K (.builtin "object.__class__") = some true
  hm : PySem.W.mroIn K C (.type "object") = some true
def veT : List Value := [.type "ValueError", .type "Exception", .type "BaseException", .type "object"]
def keT : List Value := [.type "KeyError", .type "LookupError", .type "Exception", .type "BaseException", .type "object"]
theorem veT_pass (self : Value) : PySem.refuseLoop self "__setattr__" veT = pure () := HandSPX.refsVE_pass self veT (by decide +kernel)
theorem keT_pass (self : Value) : PySem.refuseLoop self "__setattr__" keT = pure () := by kernel_rfl
theorem XC.ve {K : PySem.W.Frag} {C : Addr} (q : PySem.W.excInitIn K C veT "ValueError.__new__" = true) (hd : PySem.W.hasDictIn K C = true) (sa : PySem.W.findIn K (.ref C) "__setattr__" = some (some (.builtin "object.__setattr__")))
    (ga : PySem.W.findIn K (.ref C) "__getattribute__" = some (some (.builtin "BaseException.__getattribute__"))) (gg : PySem.W.findIn K (.ref C) "__getattr__" = some none) (exC : PySem.W.subIn K (.ref C) (.type "BaseException") = some true) (tyC : PySem.W.typeIn K (.ref C) = some (.type "type"))
    (kC : PySem.W.keepIn K (.ref C) = true) (ha : PySem.W.findIn K (.ref C) "__class__" = some (some (.builtin "object.__class__"))) (hn : PySem.W.specialIn K (.builtin "object.__class__") "__get__" = some (some (.builtin "getset_descriptor.__get__"))) (ht : PySem.W.takesIn K (.builtin "object.__class__") = some true)
    (hm : PySem.W.mroIn K C (.type "object") = some true) : XC K C :=
  ⟨⟨veT, _, _, _, _, PySem.F.excBase_ValueError, q, by decide +kernel, by decide +kernel, by decide +kernel, by decide +kernel, veT_pass⟩, hd, sa, ga, gg, exC, tyC, kC, ha, hn, ht, hm⟩
theorem XC.ke {K : PySem.W.Frag} {C : Addr} (q : PySem.W.excInitIn K C keT "LookupError.__new__" = true) (hd : PySem.W.hasDictIn K C = true) (sa : PySem.W.findIn K (.ref C) "__setattr__" = some (some (.builtin "object.__setattr__")))
    (ga : PySem.W.findIn K (.ref C) "__getattribute__" = some (some (.builtin "BaseException.__getattribute__"))) (gg : PySem.W.findIn K (.ref C) "__getattr__" = some none) (exC : PySem.W.subIn K (.ref C) (.type "BaseException") = some true) (tyC : PySem.W.typeIn K (.ref C) = some (.type "type"))
    (kC : PySem.W.keepIn K (.ref C) = true) (ha : PySem.W.findIn K (.ref C) "__class__" = some (some (.builtin "object.__class__"))) (hn : PySem.W.specialIn K (.builtin "object.__class__") "__get__" = some (some (.builtin "getset_descriptor.__get__"))) (ht : PySem.W.takesIn K (.builtin "object.__class__") = some true)
    (hm : PySem.W.mroIn K C (.type "object") = some true) : XC K C :=
  ⟨⟨keT, _, _, _, _, PySem.F.excBase_LookupError, q, by decide +kernel, by decide +kernel, by decide +kernel, by decide +kernel, keT_pass⟩, hd, sa, ga, gg, exC, tyC, kC, ha, hn, ht, hm⟩
theorem XC.data {K : PySem.W.Frag} {C : Addr} (T : XC K C) : ∃ (nm q : Str) (N : Addr) (bs bm : List Value) (sn : List Str) (sub : List Value) (ab : Bool) (col : Option Bool) (dd : Option Addr) (k0 k1 k2 k3 k5 : Option Value) (B newId initId : String) (bmF : List Value),
    ExcBaseFacts B newId initId bmF ∧ K.lookup C = some (excClassObj nm q C N bs bm true sn sub ab col dd k0 k1 k2 k3 k5 newId) ∧ bm.contains (.type B) = true ∧ bm.contains (.type "AttributeError") = false ∧ bm.contains (.type "NameError") = false ∧
    (∀ self, PySem.refuseLoop self "__setattr__" (.ref C :: bm) = pure ()) ∧ (Value.ref C :: bm).contains (.type "object") = true := by
  obtain ⟨tail, bmF, B, newId, initId, F, q, hB, hA, hN, hO, hp⟩ := T.obj
  have hdct := T.hd
  unfold PySem.W.excInitIn at q
  unfold PySem.W.hasDictIn PySem.W.clsIn at hdct
  split at q
  · rename_i dd cd sl ho
    rw [ho] at hdct
    split at q
    · rename_i C' bm k0 k1 k2 k3 n k5 hm hs
      simp only [Bool.and_eq_true, beq_iff_eq, Bool.not_eq_true'] at q
      obtain ⟨⟨⟨rfl, rfl⟩, hdel⟩, ht⟩ := q
      obtain ⟨nm, bs, mro, ns, qn, hd, sn, sub, ab, col, del⟩ := cd
      have hdct : hd = true := hdct
      dsimp only at hm hdel
      subst hm hdel hdct
      have hsl : sl = #[k0, k1, k2, k3, some (.builtin n), k5] := by
        obtain ⟨l⟩ := sl
        simp only at hs
        rw [hs]
      subst hsl
      have hT : ∀ X : String, bm.contains (.type X) = tail.contains (.type X) := fun X => PySem.W.excTail_contains X _ ht
      refine ⟨nm, qn, ns, bs, bm, sn, sub, ab, col, dd, k0, k1, k2, k3, k5, B, n, initId, bmF, F, ho, (hT _).trans hB, (hT _).trans hA, (hT _).trans hN, fun self => ?_, ?_⟩
      · exact PySem.W.excTail_pass self (hp self) _ ht
      · rw [List.contains_cons, hT, hO, Bool.or_true]
    · cases q
  · cases q
section
variable {X : Cx} {pins : List (Addr × Obj)} {σ : L2.St} {H : Hp} {s : Shared} {a C dx : Addr} {f : Str} {y : V} {u : Value} {Q : Unit → Shared → Prop} {E : Value → Shared → Prop} {A : Around}
theorem ost_newG (T : XC X.K C) (I : Inv X pins σ H s) (e : H a = some (exo a C none)) (hno : PySem.W.findIn X.K (.ref C) f = some none) (ry : RelV y u)
    (h : ∀ dx s', H dx = none → dx ≠ a → Inv X pins σ (upd (upd H dx (exd dx [(f, y)])) a (exo a C (some dx))) s' → Q () s') : wpAny (model X.prog X.w) A (setAttr (.ref a) f u) Q E s := by
  obtain ⟨nm, q, N, bs, bm, sn, sub, ab, col, dd, k0, k1, k2, k3, k5, B, newId, initId, bmF, F, hC, hB, hA, hN, hp0, hob⟩ := T.data
  have hcl : PySem.W.clsIn X.K C = some { name := nm, bases := bs, mro := .ref C :: bm, ns := N, qualname := q, hasDict := true, slotNames := sn, subclasses := sub, abstract := ab, collection := col, hasDel := false } := by unfold PySem.W.clsIn; rw [hC] <;> rfl
  obtain ⟨t1, ho⟩ := exo_at I.hok e
  obtain ⟨hp, g, d, t, os⟩ := s
  refine PySem.W.set_plain I.kIn (ox := { cls := .ref C, dict := none, data := .fields #[.ref t1, .none, .none, .none, .bool false, .none] }) (od := none) ⟨ho, rfl, rfl, trivial⟩ T.sa ?_
  refine EV.exc_osaG I.kIn ho hcl hp0 rfl hob rfl hno (fun h' tk' dx k dn dne hx hn => ?_)
  have hnd : H dx = none := I.hok.fresh dn
  have nd : ∀ {b : Addr} {o : Obj}, hp.get? b = some o → b ≠ dx := fun {b o} q => Nat.ne_of_lt (Nat.lt_of_lt_of_le (Heap.lt_size q) dn)
  have na : ∀ {b : Addr}, H b = none → b ≠ a := fun {b} n z => by
    rw [z, e] at n
    cases n
  have Un1 : Un X.fs [] H (upd (upd H dx (exd dx [(f, y)])) a (exo a C (some dx))) hp h' := {
    keep := fun b o q n _ _ => k b o (na n) q
    slot := fun b o q n _ _ => ⟨o.slots, k b o (na n) q⟩
    free := fun b o q n _ => by rw [upd_ne (na n), upd_ne (nd q)]; exact n
    there := fun b o q _ => by
      by_cases hb : b = a
      · exact ⟨_, by rw [hb]; exact hx⟩
      · exact ⟨o, k b o hb q⟩
    tups := fun b xs q => by rw [upd_ne (at_ne e q exo_tup), upd_ne (ne_of_none q hnd)]; exact q
    frzs := fun b o v q => by rw [upd_ne (at_ne e q exo_frz), upd_ne (ne_of_none q hnd)]; exact q
    tbls := fun b ps q => ⟨#[], by rw [upd_ne (at_ne e q exo_tbl), upd_ne (ne_of_none q hnd), q]; simp⟩ }
  refine h dx _ hnd dne (I.un (t' := tk') Un1 fun b o q => ?_)
  by_cases hb : b = a
  · subst hb
    rw [upd_same] at q
    cases q
    exact exo_ok hx
  · rw [upd_ne hb] at q
    by_cases hd : b = dx
    · subst hd
      rw [upd_same] at q
      cases q
      exact exd_ok hn (relO_put (fs := []) ry fun g => True.intro)
    · rw [upd_ne hd] at q
      exact (I.hok b o q).stay (fun c v hc z => k c v (by
          rcases hc with hc | hc
          · rw [hc]
            exact hb
          · exact at_ne e hc exo_own) z)
        (fun c hc => by rw [upd_ne (at_ne e hc exo_own), upd_ne (ne_of_none hc hnd)]; exact hc) (fun c xs hc => by rw [upd_ne (at_ne e hc exo_tup), upd_ne (ne_of_none hc hnd)]; exact hc)
end
def tOstG (K : PySem.W.Frag) (f : Str) (to te : TE) : TS := fun D σ H => te σ H fun y H1 => to σ H1 fun x H2 => ∃ a C : Addr, x = .ref a ∧ XC K C ∧ PySem.W.findIn K (.ref C) f = some none ∧
  H2 a = some (exo a C none) ∧ ∀ dx, H2 dx = none → dx ≠ a → D.nx σ (upd (upd H2 dx (exd dx [(f, y)])) a (exo a C (some dx)))
section
variable {X : Cx} {o e : Expr} {es : List Expr} {to te : TE} {ta : TA} {f : Str} {p p' p1 p2 pos : Pos}
theorem ps_ostG (ho : PE X o to) (he : PE X e te) (hs : swapsWith e (some (.Attribute o f p')) pos.line X.env = pure false := by rfl) : PS X (.Assign [.Attribute o f p'] e pos) (tOstG X.K f to te) := by
  refine ⟨fun pins s σ H D I h => ?_⟩
  refine plainObj_wpAny_Assign_Attribute (thn (he.run pins s σ H _ I h) fun v s1 ⟨y, H1, I1, r1, q1⟩ => thn (ho.run pins s1 σ H1 _ I1 q1) fun u s2 ⟨x, H2, I2, r2, a, C, ex, T, hno, ea, q⟩ => ?_) hs
  subst ex
  obtain rfl : u = Value.ref a := r2
  exact ost_newG T I2 ea hno r1 fun dx s' n ne J => ⟨σ, _, J, q dx n ne⟩
theorem pmk_xc {CX : CXT} {x : Str} {C fI : Addr} {k : Nat} {fd : FuncData} {ps : List Str} {sp : Sp} {ds : List Value} {dvs : List V} (T : XC X.K C) (iC : PySem.W.findIn X.K (.ref C) "__init__" = some (some (.ref fI))) (tI : PySem.W.typeIn X.K (.ref fI) = some (.type "function"))
    (F1 : FnOk X.prog X.w X.K X.mg X.base CX k fI fd ps sp) (hr : Room (k + 1) X.A) (hb : Binds X.K fd ps ds) (hd : Vals dvs ds) (hx : Passes CX X (fun _ _ _ => False)) (hg : Gl X x) (hm : X.mg x = some (.ref C)) (ha : PA X (e :: es) ta)
    (hdb : (x == ("__debug__" : Str)) = false := by decide) (he : starEach (e :: es) X.env = (false, eval e X.env) :: starEach es X.env := by rfl) (hpl : (backTo pos (starEach es X.env)).any (·.1) = false := by rfl) :
    PMk X (.Call (.Name x p) (e :: es) [] pos) (tMkO C sp dvs ta) := by
  intro pins s σ H Q I h
  obtain ⟨nm, q, N, bs, bm, sn, sub, ab, col, dd, k0, k1, k2, k3, k5, B, newId, initId, bmF, F, hC, hB, hA, hN, hp0, hob⟩ := T.data
  refine wpAny_Call_Name_kw (ld_glob I hg hm ?_ hdb)
  refine PySem.W.callWith_K (h₀ := X.base) I.ok.mod.kin T.kC (thn (ha.run pos pins s σ H _ I h) fun us s1 ⟨vs, H1, I1, r1, hz, q1⟩ => ⟨I1.kIn, ?_⟩) he hpl
  show wpAny _ _ (call (.ref C) us) _ _ _
  obtain ⟨hp, g, dr, tk, os⟩ := s1
  have hsz : hp.objs.size ≤ hp.objs.size + 1 := Nat.le_succ _
  have hn : H1 (hp.objs.size + 1) = none := I1.hok.fresh hsz
  have hq := q1 (hp.objs.size + 1) hn
  have kk : ∀ b o, hp.get? b = some o → ((hp.push (PySem.W.kdv_tup us)).push (PySem.HandSPX.excO C hp.objs.size)).get? b = some o := fun b o e => Heap.get?_push_of_some _ (Heap.get?_push_of_some _ e)
  have hget : ((hp.push (PySem.W.kdv_tup us)).push (PySem.HandSPX.excO C hp.objs.size)).get? (hp.objs.size + 1) = some (PySem.HandSPX.excO C hp.objs.size) := by heap_get
  have I2 : Inv X pins σ (upd H1 (hp.objs.size + 1) (exo (hp.objs.size + 1) C none)) ⟨(hp.push (PySem.W.kdv_tup us)).push (PySem.HandSPX.excO C hp.objs.size), g, dr, tk, os⟩ :=
    I1.laid (t' := tk) (a := hp.objs.size + 1) (o := exo (hp.objs.size + 1) C none) (h' := (hp.push (PySem.W.kdv_tup us)).push (PySem.HandSPX.excO C hp.objs.size)) kk hsz (exo_ok hget)
  have r2 : Vals (V.ref (hp.objs.size + 1) :: (vs ++ dvs)) (Value.ref (hp.objs.size + 1) :: (us ++ ds)) := .cons rfl (r1.append hd)
  have hl : (Value.ref (hp.objs.size + 1) :: us ++ ds).length = ps.length := by
    have e := r2.length
    rw [F1.len _ _ _ _ hq] at e
    exact e.symm
  have hus : us.length ≤ sizeLine := by
    rw [← Paired.length r1, sizeLine_eq]
    omega
  refine wpAny_call (EV.call_kw (kw := []) F hB hA hN (I1.kIn _ _ hC) (PySem.W.looks_findIn I1.kIn iC) (fun self => PySem.W.bind_fn I1.kIn self tI) hus
    (codeAny_mono (F1.run _ X.stack _ _ ⟨Value.ref (hp.objs.size + 1) :: us, []⟩ (Value.ref (hp.objs.size + 1) :: (us ++ ds)) _ _ (fun _ _ _ => False) (hr.make C us []) (I2.env0.make C us []) (hb _ (Value.ref (hp.objs.size + 1) :: us) I2.kIn hl) r2 hq) fun r s' hq' => ?_))
  cases r with
  | error er => exact hx pins σ _ _ er s' I2 hq'
  | ok fl =>
    cases fl with
    | ret u =>
      obtain ⟨v, H2, os2, bare2, un2, hok2, rv, ev, d, fs, ea, ed, hd1, q2⟩ := hq'
      subst ev
      obtain ⟨h2, g2, d2, t2, os'⟩ := s'
      exact ⟨rv, mk_end (raises_own T.exC T.tyC) I1 hsz kk un2 hok2 os2 bare2 ea ed hd1 q2⟩
    | next => exact False.elim hq'
    | brk => exact False.elim hq'
    | cont => exact False.elim hq'
theorem pmk_own0 {C : Addr} {bmB : List Value} {B newId initId : String} {x : Str} {p pos : Pos} (F : ExcBaseFacts B newId initId bmB) (q : PySem.W.excIn X.K C bmB newId = true) (gC : X.mg x = some (.ref C)) (kC : PySem.W.keepIn X.K (.ref C) = true) (r : Raises X (.ref C)) (hg : Gl X x)
    (hdb : (x == ("__debug__" : Str)) = false := by decide) : PMk X (.Call (.Name x p) [] [] pos) (fun σ H Q => Q (.ref C) none H) := by
  intro pins s σ H Q I h
  refine wpAny_Call_Name_kw (ld_glob I hg gC ?_ hdb)
  refine PySem.W.callWith_K0 I.kIn kC ?_
  show wpAny _ _ (call (.ref C) []) _ _ _
  obtain ⟨bm, N, nm, qn, bs, hdct, sn, sub, ab, col, dd, k0, k1, k2, k3, k5, mN, hC, hN, hni, T⟩ := exc_obj I.kIn q
  refine wpAny_call_exc_subT F T hC hN hni (fun h' e hm => ?_) (by show 0 ≤ sizeLine; exact Nat.zero_le _)
  exact mk_of I hm r h (I.hok.gone hm.new)
end
def rIsX (K : PySem.W.Frag) (a : Addr) (cls : Value) (d : Option Addr) : List V → Hp → VK → Prop := fun xs H Q => ∃ (D : Addr) (c : V) (cv : Value) (b : Bool), cls = .ref D ∧ ExcC K D ∧ xs = [.ref a, c] ∧ (∀ u, RelV c u → u = cv) ∧ PySem.W.kitOne K (.ref D) cv = some b ∧
  (d = none ∨ ∃ dd fs, d = some dd ∧ H dd = some (.xd fs)) ∧ Q (.bl b) H
theorem call_isX {X : Cx} {a : Addr} {cls : Value} {d : Option Addr} {oe : Obj} {pn : List (Addr × Obj)} (hz : Zc cls d oe) (hf : ∃ vs, oe.data = .fields vs) : CallR (X.suite a ((a, oe) :: pn)) (.builtin "isinstance") (rIsX X.K a cls d) := by
  intro pins s σ H xs us Q I r h
  obtain ⟨D, c, cv, b, ecls, C, rfl, hcv, e, hd, q⟩ := h
  subst ecls
  cases r with
  | cons rx rr =>
    cases rr with
    | cons rt rr =>
      cases rr
      cases rx
      have ec := hcv _ rt
      subst ec
      obtain ⟨hget, _⟩ := I.pin (a, oe) (List.mem_append.mpr (.inl List.mem_cons_self))
      obtain ⟨vs, hv⟩ := hf
      have J : ∃ od : Option Obj, PySem.W.InstAt s.heap a oe D od := by
        obtain ⟨oc, od, oda, osl⟩ := oe
        obtain ⟨h1, h2⟩ := hz
        dsimp only at h1 h2 hv
        subst h1 h2 hv
        rcases hd with rfl | ⟨dd, fs, rfl, hdd⟩
        · exact ⟨none, hget, rfl, rfl, trivial⟩
        · have hx : ObjOk X.prog X.w H s.heap dd (.xd fs) := I.hok dd _ hdd
          obtain ⟨mA, hns, _⟩ := hx
          obtain ⟨o, _, _, ho, _⟩ := hns
          exact ⟨some o, hget, rfl, rfl, ho⟩
      obtain ⟨od, J⟩ := J
      exact PySem.W.kia_one (EV.kitx_excD (od := od) C.hg C.hk C.hs C.hd C.ha C.hn C.ht C.hm) I.kIn J e (fun z => nomatch z) fun tk => ⟨.bl b, H, I.kept (t' := tk) fun _ _ z => z, rfl, q⟩
theorem XC.exc {K : PySem.W.Frag} {C : Addr} (T : XC K C) : ExcC K C := ⟨T.ga, T.gg, T.exC, T.hd, T.ha, T.hn, T.ht, T.hm⟩
theorem XC.xf {K : PySem.W.Frag} {C : Addr} (T : XC K C) : XfC K C := ⟨T.ga, T.gg, T.exC, T.hd⟩
theorem XC.raises {X : Cx} {C : Addr} (T : XC X.K C) : Raises X (.ref C) := raises_own T.exC T.tyC
theorem XC.exm {K : PySem.W.Frag} {C : Addr} {cls : Value} {b : Bool} (T : XC K C) (h : PySem.W.subIn K cls (.ref C) = some b) : PySem.W.exmOne K cls (.ref C) = some b := PySem.W.exm_ref T.exC T.hd T.tyC h
end LX
set_option maxHeartbeats 4000000
namespace LX
open PySem PySem.Spec PyProof.Rows L2 C8 SX
section
variable {P : Program} {w : World} {K : PySem.W.Frag} {mg : Str → Option Value} {base : Heap}
theorem fnX {x qual : Str} {st : Stmt} {f : Addr} {fd : FuncData} {N ps : List Str} {k : Nat} {sp : Sp} (F : C8.Fun K x qual st f fd) (S : FnScope N ps (C8.fnScope st)) (len : ∀ vs H Q E, sp vs H Q E → vs.length = ps.length)
    (hbody : ∀ (cdv : Value) (A : Around) (outer : List Env) (s : Shared) (H : Hp) (vs : List V) (Q : VK) (E : XK), Room k (A.deeper (envOfC qual (C8.fnScope st) s.heap.objs.size f cdv)) → sp vs H Q E →
      ∃ t, PSs (cxOf (L2.CX P w) P w K mg base N qual (C8.fnScope st) f cdv A outer s H E) (C8.fnBody st) t ∧ t { nx := fun _ H' => Q .non H', rt := Q } (L2.start N vs) H) : FnOk P w K mg base (L2.CX P w) (k + 1) f fd ps sp := by
  obtain ⟨oc, od, dV, kV, doc, pm, an, cdv, ct, osl, rfl, lk, hcd⟩ := F.ex
  exact fn_of lk hcd S len fun A outer s H vs Q E hr hsp => hbody cdv A outer s H vs Q E hr hsp
structure CalX (P : Program) (w : World) (K : PySem.W.Frag) (mg : Str → Option Value) (base : Heap) (k : Nat) (x : Str) (sp : Sp) : Prop where
  ex : ∃ (f : Addr) (fd : FuncData) (ps : List Str), FnOk P w K mg base (L2.CX P w) k f fd ps sp ∧ mg x = some (.ref f) ∧ PySem.W.keepIn K (.ref f) = true ∧ Binds K fd ps []
structure MetX (P : Program) (w : World) (K : PySem.W.Frag) (mg : Str → Option Value) (base : Heap) (k : Nat) (C : Addr) (m : Str) (sp : Sp) : Prop where
  ex : ∃ (f : Addr) (fd : FuncData) (ps : List Str), Cls K C ∧ Meth K C m f ∧ FnOk P w K mg base (L2.CX P w) k f fd ps sp ∧ Binds K fd ps []
structure MakX (P : Program) (w : World) (K : PySem.W.Frag) (mg : Str → Option Value) (base : Heap) (k : Nat) (x : Str) (C : Addr) (sp : Sp) : Prop where
  ex : ∃ (f : Addr) (fd : FuncData) (ps : List Str), Mk K C f ∧ FnOk P w K mg base (L2.CX P w) k f fd ps sp ∧ mg x = some (.ref C) ∧ Binds K fd ps []
structure RaiX (P : Program) (w : World) (K : PySem.W.Frag) (mg : Str → Option Value) (base : Heap) (k : Nat) (x : Str) (C : Addr) (sp : Sp) : Prop where
  ex : ∃ (f : Addr) (fd : FuncData) (ps : List Str), XC K C ∧ PySem.W.findIn K (.ref C) "__init__" = some (some (.ref f)) ∧ PySem.W.typeIn K (.ref f) = some (.type "function") ∧ FnOk P w K mg base C8.CX0 k f fd ps sp ∧ mg x = some (.ref C) ∧ Binds K fd ps []
theorem calX {x : Str} {st : Stmt} {f : Addr} {fd : FuncData} {N ps : List Str} {k : Nat} {sp : Sp} (F : Def K mg x st f fd) (b : Binds K fd ps []) (S : FnScope N ps (C8.fnScope st)) (len : ∀ vs H Q E, sp vs H Q E → vs.length = ps.length)
    (hbody : ∀ (cdv : Value) (A : Around) (outer : List Env) (s : Shared) (H : Hp) (vs : List V) (Q : VK) (E : XK), Room k (A.deeper (envOfC x (C8.fnScope st) s.heap.objs.size f cdv)) → sp vs H Q E →
      ∃ t, PSs (cxOf (L2.CX P w) P w K mg base N x (C8.fnScope st) f cdv A outer s H E) (C8.fnBody st) t ∧ t { nx := fun _ H' => Q .non H', rt := Q } (L2.start N vs) H) : CalX P w K mg base (k + 1) x sp :=
  ⟨f, fd, ps, fnX F.fn S len hbody, F.mgf, F.kp, b⟩
theorem metX {m qual : Str} {C : Addr} {st : Stmt} {f : Addr} {fd : FuncData} {N ps : List Str} {k : Nat} {sp : Sp} (c : Cls K C) (me : Meth K C m f) (F : C8.Fun K m qual st f fd) (b : Binds K fd ps []) (S : FnScope N ps (C8.fnScope st)) (len : ∀ vs H Q E, sp vs H Q E → vs.length = ps.length)
    (hbody : ∀ (cdv : Value) (A : Around) (outer : List Env) (s : Shared) (H : Hp) (vs : List V) (Q : VK) (E : XK), Room k (A.deeper (envOfC qual (C8.fnScope st) s.heap.objs.size f cdv)) → sp vs H Q E →
      ∃ t, PSs (cxOf (L2.CX P w) P w K mg base N qual (C8.fnScope st) f cdv A outer s H E) (C8.fnBody st) t ∧ t { nx := fun _ H' => Q .non H', rt := Q } (L2.start N vs) H) : MetX P w K mg base (k + 1) C m sp :=
  ⟨f, fd, ps, c, me, fnX F S len hbody, b⟩
theorem makX {x qual : Str} {C : Addr} {st : Stmt} {f : Addr} {fd : FuncData} {N ps : List Str} {k : Nat} {sp : Sp} (M : Mk K C f) (hm : mg x = some (.ref C)) (F : C8.Fun K "__init__" qual st f fd) (b : Binds K fd ps []) (S : FnScope N ps (C8.fnScope st)) (len : ∀ vs H Q E, sp vs H Q E → vs.length = ps.length)
    (hbody : ∀ (cdv : Value) (A : Around) (outer : List Env) (s : Shared) (H : Hp) (vs : List V) (Q : VK) (E : XK), Room k (A.deeper (envOfC qual (C8.fnScope st) s.heap.objs.size f cdv)) → sp vs H Q E →
      ∃ t, PSs (cxOf (L2.CX P w) P w K mg base N qual (C8.fnScope st) f cdv A outer s H E) (C8.fnBody st) t ∧ t { nx := fun _ H' => Q .non H', rt := Q } (L2.start N vs) H) : MakX P w K mg base (k + 1) x C sp :=
  ⟨f, fd, ps, M, fnX F S len hbody, hm, b⟩
theorem raiX {x qual : Str} {C : Addr} {st : Stmt} {f : Addr} {fd : FuncData} {N ps : List Str} {k : Nat} {sp : Sp} (T : XC K C) (iC : PySem.W.findIn K (.ref C) "__init__" = some (some (.ref f))) (tI : PySem.W.typeIn K (.ref f) = some (.type "function")) (hm : mg x = some (.ref C)) (F : C8.Fun K "__init__" qual st f fd) (b : Binds K fd ps []) (S : FnScope N ps (C8.fnScope st)) (len : ∀ vs H Q E, sp vs H Q E → vs.length = ps.length)
    (hbody : ∀ (cdv : Value) (A : Around) (outer : List Env) (s : Shared) (H : Hp) (vs : List V) (Q : VK) (E : XK), Room k (A.deeper (envOfC qual (C8.fnScope st) s.heap.objs.size f cdv)) → sp vs H Q E →
      ∃ t, PSs (cxOf C8.CX0 P w K mg base N qual (C8.fnScope st) f cdv A outer s H E).nox (C8.fnBody st) t ∧ t { nx := fun _ H' => Q .non H', rt := Q } (L2.start N vs) H) : RaiX P w K mg base (k + 1) x C sp :=
  ⟨f, fd, ps, T, iC, tI, fn0 F S len hbody, hm, b⟩
end
def tMethS (C : Addr) (m : Str) (sp : Sp) (E : L2.St → XK) (ta : TE) (t : TA) : TE := fun σ H Q => ta σ H fun x H1 => ∃ a dx fs, x = .ref a ∧ H1 a = some (.ins C dx fs) ∧ fs.lookup m = none ∧ t σ H1 fun vs H2 => sp (x :: vs) H2 Q (E σ)
def tMakeS (C : Addr) (sp : Sp) (E : L2.St → XK) (t : TA) : TE := fun σ H Q => t σ H fun vs H1 => ∀ x dx, H1 x = none → H1 dx = none → dx ≠ x → sp (.ref x :: vs) (upd (upd H1 dx (.own x)) x (.ins C dx [])) (fun v H2 => v = .non ∧ Q (.ref x) H2) (E σ)
section
variable {X : Cx} {k j : Nat} {f C : Addr} {sp : Sp} {W : WX} {x m : Str} {p pos apos : Pos} {e o : Expr} {es : List Expr} {ta : TE} {t : TA}
theorem pe_cX (c : CalX X.prog X.w X.K X.mg X.base k x sp) (tk : Takes X W) (hr : Room j X.A) (hk : k ≤ j) (hg : Gl X x) (ha : PA X (e :: es) t) (hdb : (x == ("__debug__" : Str)) = false := by decide)
    (he : starEach (e :: es) X.env = (false, eval e X.env) :: starEach es X.env := by rfl) (hpl : (backTo pos (starEach es X.env)).any (·.1) = false := by rfl) : PE X (.Call (.Name x p) (e :: es) [] pos) (tCallS sp (WE W) t) := by
  obtain ⟨f, fd, ps, F, hm, kp, b⟩ := c.ex
  exact pe_callS F (hr.mono hk) hg hm kp b (fun σ => passAt tk σ) ha hdb he hpl
theorem pe_mtX {pl : Sem Bool} (c : MetX X.prog X.w X.K X.mg X.base k C m sp) (tk : Takes X W) (hr : Room j X.A) (hk : k ≤ j) (he : PE X o ta) (ha : PA X (e :: es) t)
    (hst : starEach (e :: es) X.env = (false, eval e X.env) :: starEach es X.env := by rfl) (hpl : (backTo pos (starEach es X.env)).any (·.1) = false := by rfl)
    (ht : eval (.Call (.Attribute o m apos) (e :: es) [] pos) X.env = (do
      let ov ← eval o X.env
      standAt apos.atName
      let (f, first) ← holding [ov] (getMethod ov m pl)
      callWith pos f first (backTo pos (starEach (e :: es) X.env)) (backToKw pos (keywordEach [] X.env))) := by rfl) :
    PE X (.Call (.Attribute o m apos) (e :: es) [] pos) (tMethS C m sp (WE W) ta t) := by
  obtain ⟨f, fd, ps, cl, hm, F, hb⟩ := c.ex
  refine ⟨fun pins s σ H Q I h => ?_⟩
  refine PySem.W.methodCall_KW (pl := pl) (thn (he.run pins s σ H _ I h) fun u s1 ⟨x, H1, I1, rx, a, dx, fs, ex, ea, l, q⟩ => ?_) ht
  subst ex
  obtain rfl : u = Value.ref a := rx
  refine getmeth_ok I1 ea cl hm l ?_
  refine PySem.W.callWith_K (first := [.ref a]) (h₀ := X.base) I.ok.mod.kin hm.kp (thn (ha.run pos pins s1 σ H1 _ I1 q) fun us s2 ⟨vs, H2, I2, r, q2⟩ => ⟨I2.kIn, ?_⟩) hst hpl
  exact run_fnS (us := .ref a :: us) (vs := .ref a :: vs) F (hr.mono hk) hb (passAt tk σ) I2 (.cons rfl r) q2
theorem pe_mkX (c : MakX X.prog X.w X.K X.mg X.base k x C sp) (tk : Takes X W) (hr : Room j X.A) (hk : k + 1 ≤ j) (hg : Gl X x) (ha : PA X (e :: es) t) (hdb : (x == ("__debug__" : Str)) = false := by decide)
    (he : starEach (e :: es) X.env = (false, eval e X.env) :: starEach es X.env := by rfl) (hpl : (backTo pos (starEach es X.env)).any (·.1) = false := by rfl) : PE X (.Call (.Name x p) (e :: es) [] pos) (tMakeS C sp (WE W) t) := by
  obtain ⟨f, fd, ps, M, F, hm, hb⟩ := c.ex
  refine ⟨fun pins s σ H Q I h => ?_⟩
  refine wpAny_Call_Name_kw (ld_glob I hg hm ?_ hdb)
  refine PySem.W.callWith_K (h₀ := X.base) I.ok.mod.kin M.kp (thn (ha.run pos pins s σ H _ I h) fun us s1 ⟨vs, H1, I1, r, q⟩ => ⟨I1.kIn, ?_⟩) he hpl
  have hq := q (s1.heap.objs.size + 1) s1.heap.objs.size (I1.hok.fresh (Nat.le_succ _)) (I1.hok.fresh (Nat.le_refl _)) (Nat.ne_of_lt (Nat.lt_succ_self _))
  have I2 := Inv.made (C := C) I1
  have r2 : Vals (V.ref (s1.heap.objs.size + 1) :: vs) (Value.ref (s1.heap.objs.size + 1) :: us) := .cons rfl r
  have hl : (Value.ref (s1.heap.objs.size + 1) :: us ++ []).length = ps.length := by
    have e := r2.length
    rw [F.len _ _ _ _ hq] at e
    rw [List.append_nil]
    exact e.symm
  have hb2 := hb _ (Value.ref (s1.heap.objs.size + 1) :: us) I2.kIn hl
  rw [List.append_nil] at hb2
  refine wpAny_call (make_map (f := f) I1.kIn M.makes M.init (beq_iff_eq.mp M.fn) (codeAny_mono (F.run _ X.stack _ _ ⟨Value.ref (s1.heap.objs.size + 1) :: us, []⟩ (Value.ref (s1.heap.objs.size + 1) :: us) _ _ (WE W σ) ((hr.mono hk).make C us [])
    (I2.env0.make C us []) hb2 r2 hq) fun r s' hq' => ?_))
  cases r with
  | error e => exact passAt tk σ pins _ _ e s' I2 hq'
  | ok fl =>
    cases fl with
    | ret u =>
      obtain ⟨v, H', I3, rv, ev, q3⟩ := I2.after hq'
      subst ev
      exact ⟨rv, ⟨V.ref (s1.heap.objs.size + 1), H', I3, rfl, q3⟩⟩
    | next => exact False.elim hq'
    | brk => exact False.elim hq'
    | cont => exact False.elim hq'
theorem pmk_rai (c : RaiX X.prog X.w X.K X.mg X.base k x C sp) (hr : Room j X.A) (hk : k + 1 ≤ j) (hg : Gl X x) (ha : PA X (e :: es) t) (hdb : (x == ("__debug__" : Str)) = false := by decide)
    (he : starEach (e :: es) X.env = (false, eval e X.env) :: starEach es X.env := by rfl) (hpl : (backTo pos (starEach es X.env)).any (·.1) = false := by rfl) : PMk X (.Call (.Name x p) (e :: es) [] pos) (tMkO C sp [] t) := by
  obtain ⟨f, fd, ps, T, iC, tI, F, hm, b⟩ := c.ex
  exact pmk_xc T iC tI F (hr.mono hk) b .nil C8.pass0 hg hm ha hdb he hpl
end
def wManyA (K : PySem.W.Frag) (Wout : WX) (D : Ends) : List (Value × Option Nat × (Addr → Value → Option Addr → TS)) → WX
  | [] => Wout
  | (c, none, ts) :: r => fun cls d σ H => ∃ b, PySem.W.exmOne K cls c = some b ∧ (b = true → ∀ a, H a = none → ts a cls d D σ H) ∧ (b = false → wManyA K Wout D r cls d σ H)
  | (c, some i, ts) :: r => fun cls d σ H => ∃ b, PySem.W.exmOne K cls c = some b ∧ (b = true → ∀ a, H a = none → ts a cls d { nx := fun σ' H' => D.nx (σ'.set i none) H', rt := D.rt, bk := fun σ' H' => D.bk (σ'.set i none) H', ct := fun σ' H' => D.ct (σ'.set i none) H' } (σ.set i (some (.ref a))) H) ∧
      (b = false → wManyA K Wout D r cls d σ H)
inductive HdsA (X : Cx) : List ExceptHandler → List (Value × Option Nat × (Addr → Value → Option Addr → TS)) → Prop
  | nil : HdsA X [] []
  | cons {x : Str} {c : Value} {ts : Addr → Value → Option Addr → TS} {b₀ : Stmt} {suite : List Stmt} {np pos' : Pos} {hds : List ExceptHandler} {l : List (Value × Option Nat × (Addr → Value → Option Addr → TS))} (hc : Names X x c)
      (hsu : ∀ (a : Addr) (oe : Obj) (cls : Value) (d : Option Addr) (pn : List (Addr × Obj)), Zc cls d oe → (∃ vs, oe.data = .fields vs) → PSs (X.suite a ((a, oe) :: pn)) (b₀ :: suite) (ts a cls d)) (r : HdsA X hds l) :
      HdsA X (.ExceptHandler (some (.Name x np)) none (b₀ :: suite) pos' :: hds) ((c, none, ts) :: l)
  | consA {x n : Str} {i : Nat} {c : Value} {ts : Addr → Value → Option Addr → TS} {b₀ : Stmt} {suite : List Stmt} {np pos' : Pos} {hds : List ExceptHandler} {l : List (Value × Option Nat × (Addr → Value → Option Addr → TS))} (hi : X.N[i]? = some n) (hln : X.env.kindOf n = some .local) (hc : Names X x c)
      (hsu : ∀ (a : Addr) (oe : Obj) (cls : Value) (d : Option Addr) (pn : List (Addr × Obj)), Zc cls d oe → (∃ vs, oe.data = .fields vs) → PSs (X.suite a ((a, oe) :: pn)) (b₀ :: suite) (ts a cls d)) (r : HdsA X hds l) :
      HdsA X (.ExceptHandler (some (.Name x np)) (some n) (b₀ :: suite) pos' :: hds) ((c, some i, ts) :: l)
section
variable {X : Cx} {body : List Stmt} {h₀ : ExceptHandler} {hds : List ExceptHandler} {l : List (Value × Option Nat × (Addr → Value → Option Addr → TS))} {pos : Pos} {tb : WX → TS} {Wout : WX}
theorem ps_try_manyA (hs : X.stack = X.env :: X.outer) (hf : X.env.frame = some X.env.locals) (hN : X.N.Nodup) (tk : Takes X Wout)
    (hb : ∀ (W : WX) (pn : List (Addr × Obj)) (xe : Value → Shared → Prop), Takes (X.tr pn xe) W → PassesOwn (model X.prog X.w) X.A X.env xe → PSs (X.tr pn xe) body (tb W))
    (hh : HdsA X (h₀ :: hds) l) : PS X (.Try body (h₀ :: hds) [] [] pos) (fun D σ H => tb (wManyA X.K Wout D l) D σ H) := by
  refine ⟨fun pins s σ H D I h => ?_⟩
  have ok := I.ok
  have hfr : X.A.frames = some (X.env :: X.outer) := by rw [ok.frames, hs]
  refine wpAny_Try_except ?_
  refine wpAny_mono ((hb (wManyA X.K Wout D l) (X.pn ++ pins) (fun e s₁ => wpAny (model X.prog X.w) X.A (noteFrame e X.env) (fun _ s₂ => wpAny (model X.prog X.w) X.A (setFlight e none) (fun _ s₃ =>
    wpAny (model X.prog X.w) X.A (handleBy e X.env (h₀ :: hds)) (SP X pins D) X.xe s₃) X.xe s₂) X.xe s₁) (fun u s' xx => ?_) PassesOwn.looking).run [] s σ H D (I.toTry _) h) (fun f s1 hsp => ?_) (fun e s1 he => he)
  · obtain ⟨a, B, sI, pins', σ', H', cls, d, rfl, J', nb, up, sky, na, os, ag, w⟩ := xx
    have J : Inv X pins σ' H' sI := J'.ofTry ok
    have sky' : Sky B (X.env :: X.outer) a (Zc cls d) X.env.locals s'.heap := by rw [← hs]; exact sky
    show wpAny (model X.prog X.w) X.A (noteFrame (.ref a) X.env) _ _ _
    refine Sky.land Zc.steady hfr hf sky' fun h3 fl3 up3 => ?_
    have J3 : Inv X pins σ' H' { s' with heap := h3 } := J.landed nb fl3.1 (up.trans up3) os ag
    obtain ⟨oe3, vs3, he3, hz3, hd3⟩ := fl3.there
    have notFr : ∀ {h : Heap} {o : Obj} {vs : Array Value}, h.FunFrames B (X.env :: X.outer) → h.get? a = some o → o.data = .fields vs → a ∉ frs (X.env :: X.outer) := fun {h o vs} ff e dd hm => by
      obtain ⟨_, o', e', hnf⟩ := ff.mem hm
      rw [e] at e'; cases e'
      exact hnf _ dd
    have nfr := notFr fl3.2.2.1 he3 hd3
    have nL : a ≠ X.env.locals := fun z => nfr (List.mem_filterMap.mpr ⟨X.env, List.mem_cons_self, by rw [hf, z]⟩)
    have nF : a ∉ X.fs := fun hm => by
      obtain ⟨e, he, q⟩ := List.mem_filterMap.mp hm
      exact nfr (List.mem_filterMap.mpr ⟨e, List.mem_cons_of_mem _ he, q⟩)
    have S3 := J3.suite he3 hd3 na nL nF
    have LT : PySem.W.Looks (model X.prog X.w) h3 (typeOf (.ref a)) cls := fun A Q E s k q => wpAny_typeOf_ref (k _ _ he3) (by rw [hz3.1]; exact q)
    have test : ∀ {x : Str} {c : Value} {np : Pos} (hc : Names X x c) {Q : Value → Shared → Prop} {E : Value → Shared → Prop}, Q c { s' with heap := h3 } → wpAny (model X.prog X.w) (X.A.mark (some (.ref a))) (eval (.Name x np) X.env) Q E { s' with heap := h3 } := fun {x c np} hc {Q E} q => by
      obtain ⟨hg, hdbg, hm | ⟨hm, hv, hnn⟩⟩ := hc
      · exact ld_glob (X := X.suite a ((a, oe3) :: (X.pn ++ pins))) S3 hg hm q hdbg
      · exact ld_blt (X := X.suite a ((a, oe3) :: (X.pn ++ pins))) S3 hg hm hv q hnn hdbg
    have go : ∀ {hds' : List ExceptHandler} {l' : List (Value × Option Nat × (Addr → Value → Option Addr → TS))}, HdsA X hds' l' → wManyA X.K Wout D l' cls d σ' H' →
        wpAny (model X.prog X.w) X.A (handleBy (.ref a) X.env hds') (SP X pins D) X.xe { s' with heap := h3 } := by
      intro hds' l' hk
      induction hk with
      | nil =>
        intro w
        refine wpAny_handleBy_nil ?_
        obtain ⟨k1, k2, k3, oe, vs, T, oT, ts', he, hz, hd, h1, hr⟩ := id fl3
        unfold PySem.passOn
        refine wpAny_bind (wpAny_field he hd h1 ?_)
        rw [if_neg (show ¬ ((Value.ref T == Value.none) = true) from by simp)]
        have fin : wpAny (model X.prog X.w) X.A (setFlight (.ref a) X.env.frame) (fun _ s4 => wpAny (model X.prog X.w) X.A (throw (.ref a) : Sem Flow) (SP X pins D) X.xe s4) X.xe { s' with heap := h3 } := by
          rw [hf]
          refine HandSPX.setFlight_upZ fl3 fun h4 hh4 up4 => wpAny_throw (tk _ _ ?_)
          exact ⟨a, B, sI, pins, σ', H', cls, d, rfl, J, nb, (up.trans up3).trans up4, .inr (.inr (by rw [hs]; exact hh4)), na, os, ag, w⟩
        first
          | exact wpAny_bind (wpAny_pure (wpAny_bind fin))
          | exact wpAny_bind fin
      | @cons x c ts b₀ suite np pos' hds2 l2 hc hsu r ih =>
        intro w
        obtain ⟨b, hb1, hyes, hno⟩ := w
        refine wpAny_handleBy_cons (codeAny_handlers_test ?_) (by intro q; cases q)
        have LM := PySem.W.exm_one (M := model X.prog X.w) (J3.kIn) LT hb1
        refine test hc (LM.here ?_)
        cases b with
        | true =>
          refine codeAny_handlers_suite ?_
          refine HandSPX.lands_againZ fl3 fun h4 fl4 up4 => ?_
          have J4 : Inv X pins σ' H' { s' with heap := h4 } := J.landed nb fl4.1 ((up.trans up3).trans up4) os ag
          obtain ⟨oe4, vs4, he4, hz4, hd4⟩ := fl4.there
          have S4 := J4.suite he4 hd4 na nL nF
          refine wpAny_mono ((hsu a oe4 cls d (X.pn ++ pins) hz4 ⟨_, hd4⟩).run [] _ _ H' _ S4 (hyes rfl a na)) (fun f s6 hsp => ?_) (fun _ _ z => False.elim z)
          cases f with
          | next =>
            obtain ⟨σ6, H6, S6, q6⟩ := hsp
            exact ⟨_, _, S6.unsuite ok, q6⟩
          | brk =>
            obtain ⟨σ6, H6, S6, q6⟩ := hsp
            exact ⟨_, _, S6.unsuite ok, q6⟩
          | cont =>
            obtain ⟨σ6, H6, S6, q6⟩ := hsp
            exact ⟨_, _, S6.unsuite ok, q6⟩
          | ret u =>
            obtain ⟨v6, σ6, H6, S6, r6, q6⟩ := hsp
            exact ⟨_, _, _, S6.unsuite ok, r6, q6⟩
        | false =>
          show wpAny _ X.A (handleBy (.ref a) X.env hds2) _ _ _
          exact ih (hno rfl)
      | @consA x n i c ts b₀ suite np pos' hds2 l2 hi hln hc hsu r ih =>
        intro w
        obtain ⟨b, hb1, hyes, hno⟩ := w
        refine wpAny_handleBy_cons (codeAny_handlers_test ?_) (by intro q; cases q)
        have LM := PySem.W.exm_one (M := model X.prog X.w) (J3.kIn) LT hb1
        refine test hc (LM.here ?_)
        cases b with
        | true =>
          refine codeAny_handlers_suite_as ?_
          refine HandSPX.lands_againZ fl3 fun h4 fl4 up4 => ?_
          have J4 : Inv X pins σ' H' { s' with heap := h4 } := J.landed nb fl4.1 ((up.trans up3).trans up4) os ag
          obtain ⟨oe4, vs4, he4, hz4, hd4⟩ := fl4.there
          have S4 := J4.suite he4 hd4 na nL nF
          refine store_ok (X := X.suite a ((a, oe4) :: (X.pn ++ pins))) (v := .ref a) S4 hN hi (.inl hln) rfl (fun s5 S5 => ?_) (.inr hln)
          refine wpAny_mono ((hsu a oe4 cls d (X.pn ++ pins) hz4 ⟨_, hd4⟩).run [] s5 _ H' _ S5 (hyes rfl a na)) (fun f s6 hsp => ?_) (fun _ _ z => False.elim z)
          have end_ : ∀ {σ6 : L2.St} {H6 : Hp} {Q : Shared → Prop}, Inv (X.suite a ((a, oe4) :: (X.pn ++ pins))) [] σ6 H6 s6 → (∀ s7, Inv X pins (σ6.set i none) H6 s7 → Q s7) →
              wpAny (model X.prog X.w) X.A (do bindName X.env n .none; unbindBehindTheSuite X.env n pos') (fun _ s7 => Q s7) X.xe s6 := fun {σ6 H6 Q} S6 hq => gone_ok (S6.unsuite ok) hN hi hln hq
          cases f with
          | next =>
            obtain ⟨σ6, H6, S6, q6⟩ := hsp
            exact end_ S6 fun s7 J7 => ⟨_, _, J7, q6⟩
          | brk =>
            obtain ⟨σ6, H6, S6, q6⟩ := hsp
            exact end_ S6 fun s7 J7 => ⟨_, _, J7, q6⟩
          | cont =>
            obtain ⟨σ6, H6, S6, q6⟩ := hsp
            exact end_ S6 fun s7 J7 => ⟨_, _, J7, q6⟩
          | ret u =>
            obtain ⟨v6, σ6, H6, S6, r6, q6⟩ := hsp
            exact end_ S6 fun s7 J7 => ⟨_, _, _, J7, r6, q6⟩
        | false =>
          show wpAny _ X.A (handleBy (.ref a) X.env hds2) _ _ _
          exact ih (hno rfl)
    exact go hh w
  · cases f with
    | next =>
      obtain ⟨σ', H', J', q⟩ := hsp
      exact wpAny_execs_nil ⟨σ', H', J'.ofTry ok, q⟩
    | brk =>
      obtain ⟨σ', H', J', q⟩ := hsp
      exact ⟨σ', H', J'.ofTry ok, q⟩
    | cont =>
      obtain ⟨σ', H', J', q⟩ := hsp
      exact ⟨σ', H', J'.ofTry ok, q⟩
    | ret u =>
      obtain ⟨v, σ', H', J', r, q⟩ := hsp
      exact ⟨v, σ', H', J'.ofTry ok, r, q⟩
end
end LX
set_option maxHeartbeats 4000000
namespace LX
open PySem PySem.Spec PyProof.Rows L2 C8 SX
section
variable {prog : Program} {w : World} {A : Around} {R : Result → Shared → Prop} {I S : Addr} {fp wr : List Addr} {G : Array GenState → Array GenState → Prop} {n : Nat} {P : Nat → Value → Prop} {St : Nat → Shared → Prop}
def cntT (xs : List Str) : Nat → Nat
  | 0 => 0
  | i + 1 => if (xs.take i).contains (xs.getD i default) then cntT xs i else cntT xs i + 1
theorem cntT_succ {xs : List Str} {i : Nat} {x : Str} (h : xs[i]? = some x) : (if decide (x ∈ xs.take i) = true then cntT xs i else cntT xs i + 1) = cntT xs (i + 1) := by
  have e : xs.getD i default = x := by rw [List.getD_eq_getElem?_getD, h]; rfl
  show _ = if (xs.take i).contains (xs.getD i default) then cntT xs i else cntT xs i + 1
  rw [e]
  by_cases q : x ∈ xs.take i <;> simp [q]
theorem cntT_le (xs : List Str) : ∀ i, cntT xs i ≤ i
  | 0 => Nat.le_refl _
  | i + 1 => by
    have := cntT_le xs i
    unfold cntT
    split <;> omega
abbrev ElemG (prog : Program) (w : World) (xs : List Str) (i : Nat) (S : Addr) (h : Heap) : Prop := h.SetOf (PySem.strKind prog w) S (fun k => decide (k ∈ xs.take i)) (cntT xs i)
theorem ElemG.stay {xs : List Str} {i : Nat} {h h' : Heap} (e : ElemG prog w xs i S h) (k : ∀ o, h.get? S = some o → h'.get? S = some o) : ElemG prog w xs i S h' :=
  let ⟨o, es, ep, tb, ho, rest⟩ := e; ⟨o, es, ep, tb, k o ho, rest⟩
theorem set_loopG (W : WalksS prog w A.in1 I fp wr G n P St) (off : S ∉ fp) {xs : List Str} (hl : xs.length = n) (room : n < scanBound) (val : ∀ i v, P i v → ∃ x t, xs[i]? = some x ∧ v = .str x t) :
    ∀ (k i : Nat) (s : Shared), i + k = n → St i s → ElemG prog w xs i S s.heap → (∀ s', Moved (S :: wr) G s s' → ElemG prog w xs n S s'.heap → R (.ok (.ret .none)) s') →
      codeAny (model prog w) A (.builtin "set.update.loop" ⟨[.ref S, .ref I], []⟩) R s
  | 0, i, s, hk, hst, he, hR => by
    obtain rfl : i = n := hk
    refine codeAny_builtin PyProof.Rows.F.entry_set_update_loop ?_
    rw [Around.under_plainId PyProof.Rows.F.plain_set_update_loop _]
    refine wpAny_bind (W.done s _ _ hst fun s' hm => wpAny_pure (hR s' (hm.mono fun b hb => List.mem_cons_of_mem _ hb) (he.stay fun o e => hm.heap S o (fun h => off (W.sub _ h)) e)))
  | k + 1, i, s, hk, hst, he, hR => by
    refine codeAny_builtin PyProof.Rows.F.entry_set_update_loop ?_
    rw [Around.under_plainId PyProof.Rows.F.plain_set_update_loop _]
    refine wpAny_bind (W.item i s _ _ (by omega) hst fun v s' hP hst' hm => ?_)
    obtain ⟨x, t, hx, rfl⟩ := val i v hP
    have he' : ElemG prog w xs i S s'.heap := he.stay fun o e => hm.heap S o (fun h => off (W.sub _ h)) e
    show wpAny _ A.in1 (holding [Value.str x t] (setAdd S (.str x t)) >>= _) _ _ s'
    refine wpAny_bind (wpAny_holding ?_)
    unfold setAdd
    refine wpAny_holding (wpAny_bind ((PySem.strKind prog w).pyHash (k := x) (strKind_is _ _ _ _) ?_))
    refine wpAny_setAddHashed_of (knd := PySem.strKind prog w) (s := { s' with toks := s'.toks + 1 }) (strKind_is _ _ _ _) rfl he' (by have := cntT_le xs i; omega) fun h' hsb hS2 => ?_
    have he2 : ElemG prog w xs (i + 1) S h' := SetOf_congr hS2 (fun y => by rw [take_more hx]; by_cases e : y ∈ xs.take i <;> by_cases e2 : y = x <;> simp [e, e2]) (cntT_succ hx)
    refine wpAny_pure ⟨plainId_quiet PyProof.Rows.F.plain_set_update_loop _, set_loopG W off hl room val k (i + 1) _ (by omega) (W.frame _ s' _ _ hst' (Nat.le_succ _) fun b hb o e => ?_) he2 fun s2 hm2 he3 => ?_⟩
    · rw [hsb.2 b (fun h => off (h ▸ hb))]; exact e
    · refine hR s2 (Moved.trans W.gtrans ((hm.mono fun b hb => List.mem_cons_of_mem _ hb).then_heap (Nat.le_succ _) fun b o hb e => ?_) hm2) he3
      rw [hsb.2 b (fun h => hb (by rw [h]; exact List.mem_cons_self))]; exact e
end
section
variable {prog : Program} {w : World} {A : Around} {E : Value → Shared → Prop} {s : Shared}
theorem set_of_listG {l : Addr} {items : Array Value} {xs : List Str} {Q : Value → Shared → Prop} (hh : A.handled = none) (hl : s.heap.IsList l items) (hi : PyProof.Rows.StrsAre items.toList xs) (room : xs.length < scanBound)
    (h : ∀ (h' : Heap) (tk : Nat), ElemG prog w xs xs.length s.heap.objs.size h' → (∀ b o, s.heap.get? b = some o → h'.get? b = some o) → Q (.ref s.heap.objs.size) { s with heap := h', toks := tk }) :
    wpAny (model prog w) A (call (.type "set") [.ref l]) Q E s := by
  obtain ⟨c, tl, hmro⟩ := PySem.F.called_set.mro
  have hmade := PySem.F.called_set.made
  have hsub := PySem.F.called_set.sub
  refine wpAny_call (codeAny_of_tree ?_)
  refine wpAny_pure ⟨Code.quiet_builtin _ (by decide +kernel), codeAny_builtin PySem.F.entry_type_call ?_⟩
  rw [Around.under_plain (weight_type_call_type "set" [.ref l] []) rfl]
  have nt := PySem.F.called_set.notType
  have cc := PySem.F.called_set.canCreate
  have ct := PySem.F.typeCall_set_1 (.ref l)
  repeat (any_goals (first | assumption | wp_step))
  refine codeAny_mono (code_set_new_1 (.ref l) (E := E) (Q₁ := fun obj s1 => ∃ led : Bool, obj = .ref s.heap.objs.size ∧ s1 = { s with heap := s.heap.push { cls := .type "set", dict := none, data := .set #[] 0 (.fresh 0 0 led) } }) fun led => ⟨led, rfl, rfl⟩) fun r s1 hr => ?_
  match r, hr with
  | .ok (.ret obj), hr =>
    obtain ⟨led, rfl, rfl⟩ := hr
    have hS : (s.heap.push (setO led)).get? s.heap.objs.size = some (setO led) := Heap.get?_push_size _ rfl
    have hTy : Shared.TypeIs { s with heap := s.heap.push (setO led) } (.ref s.heap.objs.size) "set" := ⟨_, hS, rfl⟩
    have li := PySem.F.called_set.init.lookup
    have bi := PySem.F.called_set.init.bind (.ref s.heap.objs.size)
    repeat (any_goals (first | assumption | wp_step))
    refine codeAny_mono (codeAny_call_builtin (R := wants (fun r s2 => r = .none ∧ ∃ h' tk, s2 = { s with heap := h', toks := tk } ∧ ElemG prog w xs xs.length s.heap.objs.size h' ∧ (∀ b o, s.heap.get? b = some o → h'.get? b = some o)) E)
      PySem.F.called_set.init.plain PySem.F.entry_set_init (check_set_init_1 hTy ?_)) fun r2 s2 hr2 => ?_
    · obtain ⟨⟨oc, od, odt, osl⟩, hol, hcl, nl, hdl⟩ := hl
      dsimp only at hcl hdl
      subst hcl hdl
      have hol' : (s.heap.push (setO led)).get? l = some { cls := .type "list", dict := od, data := .seq items nl, slots := osl } := Heap.get?_push_of_some _ hol
      have ss := PySem.F.sub_list_set
      have sf := PySem.F.sub_list_frozenset
      have ne : (Value.type "list" == Value.type "dict") = false := by decide
      have hl1 : (s.heap.push (setO led)).IsList l items := ⟨_, hol', rfl, nl, rfl⟩
      unfold Builtin.«set.__init__» noKeywords Builtin.Frozenset.updateFrom
      generalize hPI : pyIter = PI
      wp_walk
      subst hPI
      refine wpAny_pyIter_list hl1 ?_
      refine wpAny_bind (wpAny_runValue ?_)
      have hlS : l < s.heap.objs.size := Heap.lt_size hol
      have hz : (s.heap.push (setO led)).objs.size = s.heap.objs.size + 1 := Heap.size_push ..
      have neI : l ≠ (s.heap.push (setO led)).objs.size := by rw [hz]; exact Nat.ne_of_lt (Nat.lt_succ_of_lt hlS)
      have off : s.heap.objs.size ∉ [(s.heap.push (setO led)).objs.size, l] := by
        rw [hz]; simp only [List.mem_cons, List.not_mem_nil, or_false, not_or]
        exact ⟨Nat.ne_of_lt (Nat.lt_succ_self _), Nat.ne_of_gt hlS⟩
      have hsz : xs.length = items.size := by rw [← StrsAre.len_eq hi, Array.length_toList]
      refine set_loopG (xs := xs) ((Walks.list (A := A.in1.in1.in1) (by simp [hh]) _ l neI items).toS) off hsz (by rw [← hsz]; exact room) (fun i v hv => ?_) items.size 0 _ (Nat.zero_add _) ⟨⟨_, Heap.get?_push_size _ rfl, rfl, rfl⟩, hl1.push _⟩ ?_ fun s' hm hS' => ?_
      · obtain ⟨t, e⟩ := SS.strs_at hi i v (by rw [Array.getElem?_toList]; exact hv)
        have hlt : i < xs.length := by rw [hsz]; exact (Array.getElem?_eq_some_iff.mp hv).1
        exact ⟨xs[i], t, List.getElem?_eq_getElem hlt, by rw [e, List.getD_eq_getElem?_getD, List.getElem?_eq_getElem hlt]; rfl⟩
      · exact PyProof.Rows.SetOf_congr ((PyProof.Rows.setObjOf_fresh (knd := PySem.strKind prog w) led).setOf (Heap.get?_push_of_some _ hS) (by unfold scanBound; omega)) (fun _ => by simp) rfl
      · obtain ⟨h', g', d', tk', os'⟩ := s'
        obtain rfl : g' = s.gens := hm.gens
        obtain rfl : d' = s.drawn := hm.drawn
        obtain rfl : os' = s.os := hm.os
        refine wpAny_pure (wpAny_pure ⟨rfl, h', tk', rfl, by rw [hsz]; exact hS', fun b o e => ?_⟩)
        have hb : b < s.heap.objs.size := Heap.lt_size e
        refine hm.heap b o (fun hmem => ?_) (Heap.get?_push_of_some _ (Heap.get?_push_of_some _ e))
        have e' : b = s.heap.objs.size ∨ b = (s.heap.push (setO led)).objs.size := by simpa using hmem
        rcases e' with e' | e'
        · exact Nat.ne_of_lt hb e'
        · rw [hz] at e'; exact Nat.ne_of_lt (Nat.lt_succ_of_lt hb) e'
    · match r2, hr2 with
      | .ok (.ret r), hr2 =>
        obtain ⟨rfl, h', tk, rfl, hS', hk'⟩ := hr2
        repeat (any_goals (first | assumption | wp_step))
        exact h _ _ hS' hk'
      | .error e, hr2 => exact hr2
  | .error e, hr => exact hr
end
section
variable {X : Cx}
def tLenSetG (K : PySem.W.Frag) (ta : TE) : TE := fun σ H Q => ta σ H fun x H1 => ∃ (l : Addr) (xs : List (List Nat)), x = V.ref l ∧ SqL K H1 l (txs xs) ∧ xs.length < 60 ∧ Q (.int (cntT (xs.map S) xs.length : Nat)) H1
theorem pe_lenSetG {a : Expr} {ta : TE} {p p2 q pos : Pos} (hc : X.calm = true) (hg : Gl X "len") (hm : X.mg "len" = none) (hg2 : Gl X "set") (hm2 : X.mg "set" = none) (ha : PE X a ta)
    (na : starEach [a] X.env = (false, eval a X.env) :: starEach [] X.env := by rfl) : PE X (.Call (.Name "len" p) [.Call (.Name "set" p2) [a] [] q] [] pos) (tLenSetG X.K ta) := by
  refine ⟨fun pins s σ H Q I h => ?_⟩
  refine Call_ (ld_blt I hg hm PySem.boot_len (PyProof.Rows.callWith_builtin1 (PyProof.Rows.args_cons ?_ rfl) rfl rfl))
  refine Call_ (ld_blt I hg2 hm2 PyProof.Rows.boot_set (PyProof.Rows.callWith_type1 (PyProof.Rows.args_cons (thn (ha.run pins s σ H _ I h) fun v s1 ⟨x, H1, I1, r1, q1⟩ => PyProof.Rows.args_nil ?_) na) na rfl))
  obtain ⟨l, xs, rfl, hq, h1, q1⟩ := q1
  cases r1
  have e0 : txs xs = (xs.map S).map V.str := by unfold txs; rw [List.map_map]; rfl
  have room : (xs.map S).length < scanBound := by rw [List.length_map]; unfold scanBound; omega
  rw [e0] at hq
  obtain ⟨its, r, pl, hz⟩ := I1.list hq
  refine set_of_listG (I1.ok.hd hc) pl.isList (by simpa using strsAre_of r) room fun h' tk hS hk => ?_
  refine PyProof.Rows.args_nil ?_
  obtain ⟨o, es, ep, t, ho, hex, hd, _, _, _, hf, hn⟩ := hS
  have I2 : Inv X pins σ H1 { s1 with heap := h', toks := tk } := I1.kept hk
  rw [List.length_map] at hn
  have := cntT_le (xs.map S) xs.length
  exact call_len_set ho hex hd hf (by rw [hn]; omega) ⟨.int (cntT (xs.map S) xs.length : Nat), H1, I2.tok _, ⟨_, by rw [hn]⟩, q1⟩
end
end LX
set_option maxHeartbeats 1000000
namespace LX
open PySem PySem.Spec PyProof.Rows L2 C8 SX
section
variable {X : Cx} {K : PySem.W.Frag} {H : Hp}
def inz (xs : List Int) : List V := xs.map V.int
theorem inz_len (xs : List Int) : (inz xs).length = xs.length := List.length_map ..
theorem dp_inz : ∀ xs : List Int, DpAll K H (inz xs) (xs.map PyData.int)
  | [] => .nil
  | x :: xs => .cons (.int _) (dp_inz xs)
theorem lay_inz : ∀ xs : List Int, PyData.canLayAll0 (xs.map PyData.int) = true ∧ PyData.depthAll (xs.map PyData.int) ≤ 1
  | [] => ⟨rfl, Nat.zero_le _⟩
  | x :: xs => by
    obtain ⟨h1, h2⟩ := lay_inz xs
    refine ⟨?_, ?_⟩
    · show (PyData.canLay0 (.int x) && PyData.canLayAll0 (xs.map PyData.int)) = true
      rw [h1, Bool.and_true]; rfl
    · show max (PyData.depth (.int x)) (PyData.depthAll (xs.map PyData.int)) ≤ 1
      have e : PyData.depth (.int x) ≤ 1 := Nat.zero_le _
      omega
theorem shaped_inz (xs : List Int) : SeqAt.shaped (.list (xs.map PyData.int)) = true := by
  obtain ⟨h1, h2⟩ := lay_inz xs
  show (PyData.canLayAll0 _ && decide (PyData.depthAll _ + 1 ≤ 64)) = true
  rw [h1, Bool.true_and, decide_eq_true_eq]; omega
def rNeE : R2 := fun x y H Q => ∃ (a b : Addr) (xs : List Int), x = .ref a ∧ y = .ref b ∧ H a = some (.lst (inz xs)) ∧ H b = some (.lst []) ∧ Q (.bl (!xs.isEmpty)) H
theorem op_neE {k : Nat} (hr : Room k X.A) : OpR X (compareOp .NotEq) rNeE := by
  intro pins s σ H x y v u Q I rx ry h
  obtain ⟨a, b, xs, rfl, rfl, ha, hb, q⟩ := h
  refine op_neD hr.units pins s σ H _ _ v u Q I rx ry ⟨_, _, .lst (SqL.of ha) (dp_inz xs), .lst (SqL.of hb) .nil, shaped_inz xs, shaped_inz [], ?_⟩
  cases xs with
  | nil => exact q
  | cons x xs => exact q
theorem at_last {xs : List V} {v : V} (h : 0 < xs.length) (e : xs[xs.length - 1]? = some v) : atI xs (-1) = some v := by
  have : ixN xs.length (-1) = some (xs.length - 1) := by
    unfold ixN
    rw [if_neg (by decide), if_pos (by omega)]
    congr 1; omega
  unfold atI
  rw [this]; exact e
def SeqV (K : PySem.W.Frag) (H : Hp) (x : V) (ys : List V) : Prop :=
  (∃ p, x = .ref p ∧ (SqL K H p ys ∨ SqT K H p ys)) ∨ ∃ l : List Nat, x = .str (S l) ∧ l.length ≤ sizeLine ∧ ys = l.map fun c => V.str (S [c])
def rLenA (K : PySem.W.Frag) : List V → Hp → VK → Prop := fun xs H Q => ∃ x ys, xs = [x] ∧ SeqV K H x ys ∧ Q (.int ys.length) H
theorem lenA (K : PySem.W.Frag) (h : X.K = K := by rfl) : CallR X (.builtin "len") (rLenA K) := by
  subst h
  intro pins s σ H xs us Q I r q
  obtain ⟨x, ys, rfl, hh, q⟩ := q
  rcases hh with ⟨p, rfl, hp⟩ | ⟨l, rfl, hl, rfl⟩
  · exact lenK X.K rfl pins s σ H _ us Q I r ⟨p, ys, rfl, hp, q⟩
  · refine call_len_str pins s σ H _ us Q I r ⟨S l, rfl, by rw [S_len]; exact hl, ?_⟩
    rw [S_len]
    rw [List.length_map] at q
    exact q
def rIxA (K : PySem.W.Frag) : R2 := fun x y H Q => ∃ ys i v, y = .int i ∧ SeqV K H x ys ∧ atI ys i = some v ∧ Q v H
theorem ixA (K : PySem.W.Frag) (h : X.K = K := by rfl) : IxR X (rIxA K) := by
  subst h
  intro value slice pins s σ H x y v u Q I rx ry q hs
  obtain ⟨ys, i, w, rfl, hh, ha, q⟩ := q
  refine ix_seq value slice pins s σ H x (.int i) v u Q I rx ry ?_ hs
  rcases hh with ⟨p, rfl, hp | hp⟩ | ⟨l, rfl, hl, rfl⟩
  · exact .inl ⟨p, ys, i, w, rfl, rfl, hp, ha, q⟩
  · exact .inr (.inl ⟨p, ys, i, w, rfl, rfl, hp, ha, q⟩)
  · have e : ∀ j, (l.map fun c => V.str (S [c]))[j]? = (l[j]?).map fun c => V.str (S [c]) := fun j => List.getElem?_map ..
    have e2 : atI l i = none ∧ w = w ∨ ∃ c, atI l i = some c ∧ w = .str (S [c]) := by
      unfold atI at ha ⊢
      rw [List.length_map] at ha
      cases hx : ixN l.length i with
      | none => rw [hx] at ha; cases ha
      | some j =>
        rw [hx] at ha
        have ha : (l.map fun c => V.str (S [c]))[j]? = some w := ha
        rw [e] at ha
        cases hc : l[j]? with
        | none => rw [hc] at ha; cases ha
        | some c => rw [hc] at ha; exact .inr ⟨c, hc, (Option.some.inj ha).symm⟩
    rcases e2 with ⟨e3, _⟩ | ⟨c, e3, rfl⟩
    · exfalso
      unfold atI at ha e3
      rw [List.length_map] at ha
      cases hx : ixN l.length i with
      | none => rw [hx] at ha; cases ha
      | some j =>
        rw [hx] at ha e3
        have ha : (l.map fun c => V.str (S [c]))[j]? = some w := ha
        have e3 : l[j]? = none := e3
        rw [e, e3] at ha; cases ha
    · exact .inr (.inr ⟨S l, i, c, rfl, rfl, by rw [S_len]; exact hl, e3, q⟩)
theorem le1000 {n : Nat} (h : n ≤ 1000) : n ≤ sizeLine := Nat.le_trans h (by decide)
theorem inz_get {cs : List Int} {i : Nat} {x : V} (h : (inz cs)[i]? = some x) : ∃ z, cs[i]? = some z ∧ x = .int z := by
  unfold inz at h
  rw [List.getElem?_map] at h
  cases q : cs[i]? with
  | none => rw [q] at h; cases h
  | some l => rw [q] at h; exact ⟨l, rfl, (Option.some.inj h).symm⟩
theorem inz_of : ∀ {ys : List V}, (∀ (j : Nat) y, ys[j]? = some y → ∃ z : Int, y = .int z) → ∃ cs : List Int, ys = inz cs
  | [], _ => ⟨[], rfl⟩
  | y :: ys, h => by
    obtain ⟨z, rfl⟩ := h 0 y rfl
    obtain ⟨cs, rfl⟩ := inz_of (ys := ys) fun j z q => h (j + 1) z q
    exact ⟨z :: cs, rfl⟩
theorem nxt {D : Ends} {σ : L2.St} {H : Hp} (h : D.nx σ H) : tNext D σ H := h
end
end LX
set_option maxHeartbeats 2000000
namespace LX
open PySem PySem.Spec PyProof.Rows L2 C8 SX
theorem pi_zipXK {X : Cx} {e e2 : Expr} {ta : TA} {p pos tpos : Pos} {elts : List Expr} {kk : Nat} (K : PySem.W.Frag) (hg : Gl X "zip") (hm : X.mg "zip" = none) (ha : PA X [e, e2] ta) (h : X.K = K := by rfl)
    (hs : starEach [e, e2] X.env = (false, eval e X.env) :: starEach [e2] X.env := by rfl) (hpl : (backTo pos (starEach [e2] X.env)).any (·.1) = false := by rfl) :
    PI X (.Tuple elts kk tpos) (.Call (.Name "zip" p) [e, e2] [] pos) (iZipX K ta) := by subst h; exact pi_zipX hg hm ha hs hpl
theorem pe_orE {X : Cx} {e : Expr} {t u : TE} (a : PE X e t) (b : PE X e u) : PE X e (fun σ H Q => t σ H Q ∨ u σ H Q) := ⟨fun pins s σ H Q I h => h.elim (a.run pins s σ H Q I) (b.run pins s σ H Q I)⟩
section
variable {X : Cx}
theorem lay_lists : ∀ cs : List (List (List Nat)), (∀ c ∈ cs, Small c) → PyData.canLayAll0 (cs.map fun c => PyData.list (c.map fun l => PyData.str (S l))) = true ∧ PyData.depthAll (cs.map fun c => PyData.list (c.map fun l => PyData.str (S l))) ≤ 9
  | [], _ => ⟨rfl, Nat.zero_le _⟩
  | c :: cs, h => by
    obtain ⟨h1, h2⟩ := lay_lists cs fun d hd => h d (List.mem_cons_of_mem _ hd)
    obtain ⟨g1, g2⟩ := lay_strs (h c List.mem_cons_self)
    refine ⟨?_, ?_⟩
    · show (PyData.canLayAll0 _ && PyData.canLayAll0 (cs.map fun c => PyData.list (c.map fun l => PyData.str (S l)))) = true
      rw [g1, h1]; rfl
    · show max (PyData.depthAll _ + 1) (PyData.depthAll (cs.map fun c => PyData.list (c.map fun l => PyData.str (S l)))) ≤ 9
      omega
theorem dp_lists {K : PySem.W.Frag} {H : Hp} : ∀ {rs : List Addr} {cs : List (List (List Nat))}, rs.length = cs.length → (∀ (i : Nat) r c, rs[i]? = some r → cs[i]? = some c → H r = some (.lst (txs c))) → DpAll K H (rs.map V.ref) (cs.map fun c => PyData.list (c.map fun l => PyData.str (S l)))
  | [], [], _, _ => .nil
  | r :: rs, c :: cs, hl, h => .cons (.lst (SqL.of (h 0 r c rfl rfl)) (dp_strs c)) (dp_lists (by simpa using hl) fun i r c e1 e2 => h (i + 1) r c e1 e2)
  | [], _ :: _, hl, _ => by simp at hl
  | _ :: _, [], hl, _ => by simp at hl
def rNeL : R2 := fun x y H Q => ∃ (a b : Addr) (rs : List Addr) (cs : List (List (List Nat))), x = .ref a ∧ y = .ref b ∧ H a = some (.lst (rs.map V.ref)) ∧ H b = some (.lst []) ∧ rs.length = cs.length ∧ (∀ (i : Nat) r c, rs[i]? = some r → cs[i]? = some c → H r = some (.lst (txs c))) ∧ (∀ c ∈ cs, Small c) ∧ Q (.bl (!rs.isEmpty)) H
theorem op_neL {k : Nat} (hr : Room k X.A) : OpR X (compareOp .NotEq) rNeL := by
  intro pins s σ H x y v u Q I rx ry h
  obtain ⟨a, b, rs, cs, rfl, rfl, ha, hb, hl, hall, hsm, q⟩ := h
  obtain ⟨h1, h2⟩ := lay_lists cs hsm
  refine op_neD hr.units pins s σ H _ _ v u Q I rx ry ⟨_, _, .lst (SqL.of ha) (dp_lists hl hall), .lst (SqL.of hb) .nil, ?_, rfl, ?_⟩
  · show (PyData.canLayAll0 _ && decide (PyData.depthAll _ + 1 ≤ 64)) = true
    rw [h1, Bool.true_and, decide_eq_true_eq]; omega
  · cases rs with
    | nil =>
      cases cs with
      | nil => exact q
      | cons _ _ => simp at hl
    | cons r rs =>
      cases cs with
      | nil => simp at hl
      | cons _ _ => exact q
end
end LX
set_option maxHeartbeats 2000000
namespace Toy
open PySem L2 C8 SX LX
local macro_rules | `(tactic| walk_at "c") => `(tactic| refine And.intro (by first | (show (0 : Int) < _; omega) | exact Or.inr ⟨by decide, by decide⟩ | exact Or.inl ⟨by decide, by decide⟩ | (exact ⟨by omega, by omega⟩)) ?_)
local macro_rules | `(tactic| walk_at "s1") => `(tactic| first | refine ⟨_, rfl, ?_⟩ | refine ⟨_, _, rfl, rfl, ?_⟩ | refine .inl ⟨_, rfl, ?_⟩ | walk_at "c")
local macro_rules | `(tactic| walk_at "s") => `(tactic| repeat (walk_at "s1"))
structure XQ (K : PySem.W.Frag) (mg : Str → Option Value) (n : Str) (C : Addr) : Prop where
  x : XC K C
  g : mg n = some (.ref C)
structure XN (K : PySem.W.Frag) (mg : Str → Option Value) (n : Str) (C : Addr) : Prop where
  q : PySem.W.excIn K C veT "ValueError.__new__" = true
  g : mg n = some (.ref C)
  k : PySem.W.keepIn K (.ref C) = true
  hb : PySem.W.subIn K (.ref C) (.type "BaseException") = some true
  ht : PySem.W.typeIn K (.ref C) = some (.type "type")
theorem XN.r {K : PySem.W.Frag} {mg : Str → Option Value} {n : Str} {C : Addr} (h : XN K mg n C) {X : Cx} (hX : X.K = K := by rfl) : Raises X (.ref C) := raises_own (by rw [hX]; exact h.hb) (by rw [hX]; exact h.ht)
def spXInit (C : Addr) (f : Str) : Sp := fun vs H Q _ => ∃ (a : Addr) (v : V), vs = [.ref a, v] ∧ H a = some (exo a C none) ∧ ∀ dx, H dx = none → dx ≠ a → Q .non (upd (upd H dx (exd dx [(f, v)])) a (exo a C (some dx)))
theorem exo_ne_exd {a C d : Addr} {dd : Option Addr} {fs : List (Str × V)} {H : Hp} (h1 : H a = none) : (upd H a (exo a C dd)) a ≠ none := by rw [upd_same]; simp
theorem raise_read {C : Addr} {f : Str} {v : V} {H : Hp} {Q : XK} (k : ∀ d, H d = none → Q (.ref C) (some d) (upd H d (.xd [(f, v)]))) (a : Addr) (ha : H a = none) :
    spXInit C f (.ref a :: ([v] ++ [])) (upd H a (exo a C none)) (fun v H2 => v = .non ∧ ∃ (d : Addr) (fs : List (Str × V)), H2 a = some (exo a C (some d)) ∧ H2 d = some (exd d fs) ∧ H d = none ∧ Q (.ref C) (some d) (upd (del H2 a) d (.xd fs))) (fun _ _ _ => False) := by
  refine ⟨a, v, rfl, upd_same, fun dx hdx nda => ⟨rfl, dx, [(f, v)], upd_same, by rw [upd_ne nda, upd_same], by rw [upd_ne nda] at hdx; exact hdx, ?_⟩⟩
  rw [upd_ne nda] at hdx
  have e : upd (del (upd (upd (upd H a (exo a C none)) dx (exd dx [(f, v)])) a (exo a C (some dx))) a) dx (.xd [(f, v)]) = upd H dx (.xd [(f, v)]) := by
    funext b
    by_cases h1 : b = dx
    · rw [h1, upd_same, upd_same]
    · rw [upd_ne h1, upd_ne h1]
      by_cases h2 : b = a
      · rw [h2, del_same, ha]
      · rw [del_ne h2, upd_ne h2, upd_ne h1, upd_ne h2]
  rw [e]
  exact k dx hdx
inductive Kv (K : PySem.W.Frag) (H : Hp) : V → Option (List Nat) → Prop
  | txt (l : List Nat) : Kv K H (.str (S l)) (some l)
  | no {v : V} {t : Value} (ty : TyX K H v t) (h : PySem.W.kitOne K t (.type "str") = some false) : Kv K H v none
theorem ty_seqL {K : PySem.W.Frag} {H : Hp} {a : Addr} {xs : List V} (h : SqL K H a xs) : TyX K H (.ref a) (.type "list") := by
  rcases h with (h | ⟨o, h⟩) | ⟨o, its, n, h1, h2, _⟩
  · exact .base (.lst h)
  · exact .base (.frz h)
  · exact .kList h1 h2
theorem ty_seqT {K : PySem.W.Frag} {H : Hp} {a : Addr} {xs : List V} (h : SqT K H a xs) : TyX K H (.ref a) (.type "tuple") := by
  rcases h with (h | ⟨o, h⟩) | ⟨o, its, n, h1, h2, _⟩
  · exact .base (.tup h)
  · exact .fTuple h
  · exact .kTuple h1 h2
theorem kv_ins {K : PySem.W.Frag} {H : Hp} {a C dx : Addr} {fs : List (Str × V)} (I : InsC K C) (hk : PySem.W.kitOne K (.ref C) (.type "str") = some false) (h : H a = some (.ins C dx fs)) : Kv K H (.ref a) none :=
  .no (.base (.ins h I.cl I.ha I.hn I.htk I.hm)) hk
theorem bools_of {ys : List V} {n : Nat} {f : Nat → Bool} (hl : ys.length = n) (h : ∀ (j : Nat) y, ys[j]? = some y → y = .bl (f j)) : ys = ((List.range n).map f).map V.bl := by
  rw [List.map_map]
  exact list_of hl h
theorem all_range {n : Nat} {f : Nat → Bool} : ((List.range n).map f).all id = decide (∀ i, i < n → f i = true) := by
  rw [Bool.eq_iff_iff, List.all_eq_true, decide_eq_true_eq]
  constructor
  · intro h i hi
    exact h _ (List.mem_map.mpr ⟨i, List.mem_range.mpr hi, rfl⟩)
  · intro h b hb
    obtain ⟨i, hi, rfl⟩ := List.mem_map.mp hb
    exact h i (List.mem_range.mp hi)
theorem ty_same {K : PySem.W.Frag} {H H' : Hp} (s : Same H H') {v : V} {t : Value} (h : TyX K H v t) : TyX K H' v t := by
  cases h with
  | base b =>
    cases b with
    | non => exact .base .non
    | bl x => exact .base (.bl x)
    | int i => exact .base (.int i)
    | str x => exact .base (.str x)
    | flt x => exact .base (.flt x)
    | lst e => exact .base (.lst (s _ _ e))
    | frz e => exact .base (.frz (s _ _ e))
    | tup e => exact .base (.tup (s _ _ e))
    | dK e => exact .base (.dK (s _ _ e))
    | dT e => exact .base (.dT (s _ _ e))
    | ins e cl ha hn htk hm => exact .base (.ins (s _ _ e) cl ha hn htk hm)
  | byt b => exact .byt b
  | set e => exact .set (s _ _ e)
  | kList e c => exact .kList e c
  | kTuple e c => exact .kTuple e c
  | kDict e c => exact .kDict e c
  | fTuple e => exact .fTuple (s _ _ e)
  | fDict e => exact .fDict (s _ _ e)
theorem kv_same {K : PySem.W.Frag} {H H' : Hp} (s : Same H H') {v : V} {o : Option (List Nat)} (h : Kv K H v o) : Kv K H' v o := by
  cases h with
  | txt l => exact .txt l
  | no ty hk => exact .no (ty_same s ty) hk
structure XG (mg : Str → Option Value) (n : Str) (C : Addr) : Prop where
  g : mg n = some (.ref C)
section
variable {P : Program} {w : World} {K : PySem.W.Frag} {mg : Str → Option Value} {base : Heap}
abbrev s_xnm : Stmt := inClass (top 9) 0
abbrev n_xnm : List Str := ["self", "mark"]
theorem sc_xnm : FnScope n_xnm ["self", "mark"] (fnScope s_xnm) := fnScope_by (by decide +kernel)
theorem ok_xnm {C : Addr} (x_ : XQ K mg "NoMark" C) (n_ : PySem.W.findIn K (.ref C) "mark" = some none) {f : Addr} (iC : PySem.W.findIn K (.ref C) "__init__" = some (some (.ref f))) (tI : PySem.W.typeIn K (.ref f) = some (.type "function")) {fd : FuncData} (F : C8.Fun K "__init__" "NoMark.__init__" s_xnm f fd) (b : Binds K fd ["self", "mark"] []) : RaiX P w K mg base 1 "NoMark" C (spXInit C "mark") := by
  refine raiX x_.x iC tI x_.g F b sc_xnm (fun vs H Q E h => ?_) (fun cdv A outer s H vs Q E hr h => ?_)
  · obtain ⟨a, v, rfl, _⟩ := h; rfl
  · obtain ⟨a, v, rfl, ha, k⟩ := h
    refine ⟨_, (pss_one (ps_ostG (pv 0) (pv 1))
      ), ?_⟩
    exact ⟨_, rfl, _, rfl, a, C, rfl, x_.x, n_, ha, fun dx h1 h2 => k dx h1 h2⟩
theorem cal_imp {P : Program} {w : World} {K : PySem.W.Frag} {mg : Str → Option Value} {base : Heap} {n : Str} {k : Nat} {sp sp' : Sp} (c : Cal P w K mg base k n sp []) (h : ∀ vs H Q E, sp' vs H Q E → sp vs H Q E) : Cal P w K mg base k n sp' [] := by
  obtain ⟨f, fd, ps, ds, F, a, b, c, d⟩ := c.ex
  exact ⟨f, fd, ps, ds, F.imp h, a, b, c, d⟩
def spIsSeqY (K : PySem.W.Frag) : Sp := fun vs H Q _ => ∃ (v : V) (t : Value) (b : Bool), vs = [v] ∧ (∀ H', Same H H' → TyX K H' v t) ∧ PySem.W.kitAny K t [.type "list", .type "tuple"] = some b ∧ ∀ H', Same H H' → Q (.bl b) H'
theorem ok_isseqY (T : BT mg) {f : Addr} {fd : FuncData} (F : Def K mg "is_sequence" s_isseq f fd) (b : Binds K fd ["value"] []) : Cal P w K mg base 1 "is_sequence" (spIsSeqY K) [] := by
  refine cal0 F b .nil sc_isseq (fun vs H Q E h => ?_) (fun cdv A outer s H vs Q E hr h => ?_)
  · obtain ⟨v, t, b, rfl, _⟩ := h; rfl
  · obtain ⟨v, ty, b, rfl, hd, hk, k⟩ := h
    refine ⟨_, (pss_one (ps_ret (pe_callB (isiTK K) (by rfl) T.m_isinstance PyProof.Rows.boot_isinstance (pa_cons (pv 0) (pa_cons (pe_tup (pa_cons (pe_bltn (v := .ty "list") (by rfl) T.m_list PyProof.Rows.boot_list rfl) (pa_cons (pe_bltn (v := .ty "tuple") (by rfl) T.m_tuple PyProof.Rows.boot_tuple rfl) pa_nil))) pa_nil))))
      ), ?_⟩
    walk_at "s"
    refine ⟨by decide, fun t ht => ?_⟩
    exact ⟨_, t, _, _, _, b, rfl, upd_same, .cons (.ty _) (.cons (.ty _) .nil), hd _ (sm_new ht), hk, k _ (sm_new ht)⟩
theorem kit_noseq {K : PySem.W.Frag} {a : String} (h1 : PySem.W.kitOne K (.type a) (.type "list") = some false) (h2 : PySem.W.kitOne K (.type a) (.type "tuple") = some false) : PySem.W.kitAny K (.type a) [.type "list", .type "tuple"] = some false :=
  kitAny_cons (b := false) h1 (fun _ => kitAny_cons (b := false) h2 (fun _ => rfl) (fun h => nomatch h)) (fun h => nomatch h)
theorem kit_list {K : PySem.W.Frag} : PySem.W.kitAny K (.type "list") [.type "list", .type "tuple"] = some true := kitAny_cons (b := true) (kit_ty (a := "list") (by decide +kernel)) (fun h => nomatch h) (fun _ => rfl)
theorem kit_tuple {K : PySem.W.Frag} : PySem.W.kitAny K (.type "tuple") [.type "list", .type "tuple"] = some true := kitAny_cons (b := false) (kit_ty (a := "tuple") (by decide +kernel)) (fun _ => kitAny_cons (b := true) (kit_ty (a := "tuple") (by decide +kernel)) (fun h => nomatch h) (fun _ => rfl)) (fun h => nomatch h)
abbrev s_ismark : Stmt := top 24
abbrev n_ismark : List Str := ["reader", "value"]
theorem sc_ismark : FnScope n_ismark ["reader", "value"] (fnScope s_ismark) := fnScope_by (by decide +kernel)
def markO (ms : List (List Nat)) : Option (List Nat) → Bool
  | some x => decide (x ∈ ms)
  | none => false
def spIsMarkD (K : PySem.W.Frag) (C : Addr) : Sp := fun vs H Q _ => ∃ (a : Addr) (sg : List Nat) (ms : List (List Nat)) (f : List Nat) (tg : List Nat → Nat → List Nat) (v : V) (o : Option (List Nat)), vs = [.ref a, v] ∧ Rdr C H a sg ms f tg ∧ Kv K H v o ∧ Q (.bl (markO ms o)) H
theorem ok_ismarkD {C : Addr} (T : BT mg) (CH : CR K C) {f : Addr} {fd : FuncData} (F : Def K mg "is_mark" s_ismark f fd) (b : Binds K fd ["reader", "value"] []) : Cal P w K mg base 1 "is_mark" (spIsMarkD K C) [] := by
  refine cal0 F b .nil sc_ismark (fun vs H Q E h => ?_) (fun cdv A outer s H vs Q E hr h => ?_)
  · obtain ⟨a, sg, ms, f, tg, v, o, rfl, _⟩ := h; rfl
  · obtain ⟨a, sg, ms, f, tg, v, o, rfl, ⟨dx, m, st, nu, le, sa, la, co, ca, r, hcol⟩, hv, k⟩ := h
    refine ⟨_, (pss_one (ps_ret (pe_and (pe_callB (isiK K) (by rfl) T.m_isinstance PyProof.Rows.boot_isinstance (pa_cons (pv 1) (pa_cons (pe_bltn (v := .ty "str") (by rfl) T.m_str PyProof.Rows.boot_str rfl) pa_nil))) (pe_one (pe_cmpR (inK K) (pv 1) (fldK K (pv 0) rfl) rfl))))
      ), ?_⟩
    refine ⟨_, rfl, ?_⟩
    cases hv with
    | no ty hk => exact ⟨_, _, _, _, false, rfl, .ty _, ty, hk, false, rfl, iteN rfl k⟩
    | txt x =>
      refine ⟨_, _, _, _, true, rfl, .ty _, .base (.str _), kit_ty (by decide +kernel), true, rfl, iteT ?_⟩
      refine ⟨_, rfl, _, rfl, a, C, dx, _, _, rfl, r.ha, CH.cl, CH.nM, rl_marks, ?_⟩
      refine ⟨m, txs ms, rfl, .inr (SqT.of r.hm), rfl, flat_txs _, ?_⟩
      rw [inV_txs]
      exact k
end
end Toy
set_option maxHeartbeats 1000000
namespace UW
def sl (a b : List Nat) : Prop := a.length < b.length ∨ (a.length = b.length ∧ a < b)
theorem lex_snoc : ∀ {u v : List Nat} {d i : Nat}, u.length = v.length → u ++ [d] < v ++ [i] → u < v ∨ (u = v ∧ d < i)
  | [], [], d, i, _, h => by
    refine .inr ⟨rfl, ?_⟩
    rcases List.cons_lt_cons_iff.mp h with h | ⟨_, h⟩
    · exact h
    · exact absurd h (by simp)
  | a :: u, b :: v, d, i, hl, h => by
    rcases List.cons_lt_cons_iff.mp h with h1 | ⟨h1, h2⟩
    · exact .inl (List.cons_lt_cons_iff.mpr (.inl h1))
    · rcases lex_snoc (u := u) (v := v) (by simpa using hl) h2 with h3 | ⟨h3, h4⟩
      · exact .inl (List.cons_lt_cons_iff.mpr (.inr ⟨h1, h3⟩))
      · exact .inr ⟨by rw [h1, h3], h4⟩
  | [], b :: v, _, _, hl, _ => by simp at hl
  | a :: u, [], _, _, hl, _ => by simp at hl
theorem sl_snoc {u v : List Nat} {d i : Nat} (h : sl (u ++ [d]) (v ++ [i])) : sl u v ∨ (u = v ∧ d < i) := by
  rcases h with h | ⟨hl, h⟩
  · exact .inl (.inl (by simpa using h))
  · have hl' : u.length = v.length := by simpa using hl
    rcases lex_snoc hl' h with h | h
    · exact .inl (.inr ⟨hl', h⟩)
    · exact .inr h
theorem sl_irr {u : List Nat} : ¬ sl u u := fun h => by
  rcases h with h | ⟨_, h⟩
  · omega
  · exact List.lt_irrefl _ h
section
variable {α : Type} {lead : α → Nat → α} {m : Nat} {last : α → Prop} {b : α}
def run (lead : α → Nat → α) (b : α) (w : List Nat) : α := w.foldl lead b
theorem run_snoc (w : List Nat) (d : Nat) : run lead b (w ++ [d]) = lead (run lead b w) d := by unfold run; rw [List.foldl_append]; rfl
def Rw (m : Nat) (w : List Nat) : Prop := ∀ c ∈ w, c < m
structure St (lead : α → Nat → α) (m : Nat) (last : α → Prop) (b : α) (L : List (α × List Nat)) (k i : Nat) : Prop where
  zero : L[0]? = some (b, [])
  nd : (L.map (·.1)).Nodup
  row : ∀ (j : Nat) p, L[j]? = some p → run lead b p.2 = p.1 ∧ Rw m p.2
  done : ∀ (j : Nat) p d, L[j]? = some p → d < m → (j < k ∨ (j = k ∧ d < i)) → ∃ q ∈ L, q.1 = lead p.1 d
  least : ∀ (j : Nat) p w, L[j]? = some p → Rw m w → sl w p.2 → ∃ (h : Nat) (q : α × List Nat), h < j ∧ L[h]? = some q ∧ run lead b w = q.1
  notlast : ∀ (j : Nat) p, L[j]? = some p → j + 1 < L.length → ¬ last p.1
theorem St.init : St lead m last b [(b, [])] 0 0 where
  zero := rfl
  nd := by simp
  row := fun j p e => by
    rcases j with _ | j
    · cases e; exact ⟨rfl, fun _ h => nomatch h⟩
    · simp at e
  done := fun j p d e _ h => by omega
  least := fun j p w e _ h => by
    rcases j with _ | j
    · cases e
      rcases h with h | ⟨hl, h⟩
      · simp at h
      · exact absurd h (by simp)
    · simp at e
  notlast := fun j p e h => by simp at h
theorem St.next {L : List (α × List Nat)} {k : Nat} (h : St lead m last b L k m) : St lead m last b L (k + 1) 0 :=
  ⟨h.zero, h.nd, h.row, fun j p d e hd hj => h.done j p d e hd (by omega), h.least, h.notlast⟩
theorem St.old {L : List (α × List Nat)} {k i : Nat} (h : St lead m last b L k i) {p : α × List Nat} (hp : L[k]? = some p) (ho : ∃ q ∈ L, q.1 = lead p.1 i) : St lead m last b L k (i + 1) :=
  ⟨h.zero, h.nd, h.row, fun j q d e hd hj => by
    by_cases hjd : j = k ∧ d = i
    · obtain ⟨h1, h2⟩ := hjd
      rw [h1, hp] at e
      cases e
      rw [h2]
      exact ho
    · exact h.done j q d e hd (by omega), h.least, h.notlast⟩
theorem St.new {L : List (α × List Nat)} {k i : Nat} (h : St lead m last b L k i) {p : α × List Nat} (hp : L[k]? = some p) (hi : i < m) (hn : ∀ q ∈ L, q.1 ≠ lead p.1 i) (hl : ∀ q ∈ L, ¬ last q.1) : St lead m last b (L ++ [(lead p.1 i, p.2 ++ [i])]) k (i + 1) := by
  have hk : k < L.length := (List.getElem?_eq_some_iff.mp hp).1
  have up : ∀ {j : Nat} {q : α × List Nat}, L[j]? = some q → (L ++ [(lead p.1 i, p.2 ++ [i])])[j]? = some q := fun {j q} e => by
    rw [List.getElem?_append_left (List.getElem?_eq_some_iff.mp e).1]; exact e
  have dn : ∀ {j : Nat} {q : α × List Nat}, (L ++ [(lead p.1 i, p.2 ++ [i])])[j]? = some q → L[j]? = some q ∨ (j = L.length ∧ q = (lead p.1 i, p.2 ++ [i])) := fun {j q} e => by
    by_cases hj : j < L.length
    · rw [List.getElem?_append_left hj] at e; exact .inl e
    · rw [List.getElem?_append_right (by omega)] at e
      cases hz : j - L.length with
      | zero => rw [hz] at e; simp at e; exact .inr ⟨by omega, e.symm⟩
      | succ n => rw [hz] at e; simp at e
  refine ⟨up h.zero, ?_, fun j q e => ?_, fun j q d e hd hj => ?_, fun j q w e hw hs => ?_, fun j q e hj => ?_⟩
  · rw [List.map_append, List.nodup_append]
    refine ⟨h.nd, by simp, fun a ha c hc => ?_⟩
    obtain ⟨q, hq, rfl⟩ := List.mem_map.mp ha
    simp at hc
    rw [hc]
    exact hn q hq
  · rcases dn e with e | ⟨_, rfl⟩
    · exact h.row j q e
    · obtain ⟨h1, h2⟩ := h.row k p hp
      refine ⟨by rw [run_snoc, h1], fun c hc => ?_⟩
      rcases List.mem_append.mp hc with hc | hc
      · exact h2 c hc
      · rw [List.mem_singleton.mp hc]; exact hi
  · rcases dn e with e | ⟨rfl, rfl⟩
    · by_cases hjd : j = k ∧ d = i
      · obtain ⟨h1, h2⟩ := hjd
        rw [h1, hp] at e
        cases e
        rw [h2]
        exact ⟨_, List.mem_append_right _ List.mem_cons_self, rfl⟩
      · obtain ⟨r, hr, er⟩ := h.done j q d e hd (by omega)
        exact ⟨r, List.mem_append_left _ hr, er⟩
    · omega
  · rcases dn e with e | ⟨rfl, rfl⟩
    · obtain ⟨g, r, h1, h2, h3⟩ := h.least j q w e hw hs
      exact ⟨g, r, h1, up h2, h3⟩
    · have key : ∃ r ∈ L, run lead b w = r.1 := by
        rcases List.eq_nil_or_concat w with rfl | ⟨u, d, rfl⟩
        · exact ⟨_, List.mem_of_getElem? h.zero, rfl⟩
        · rw [List.concat_eq_append] at hs hw ⊢
          have hu : Rw m u := fun c hc => hw c (List.mem_append_left _ hc)
          have hd : d < m := hw d (List.mem_append_right _ List.mem_cons_self)
          rcases sl_snoc hs with hs | ⟨rfl, hdi⟩
          · obtain ⟨g, r, h1, h2, h3⟩ := h.least k p u hp hu hs
            obtain ⟨z, hz, ez⟩ := h.done g r d h2 hd (.inl h1)
            exact ⟨z, hz, by rw [run_snoc, h3]; exact ez.symm⟩
          · obtain ⟨z, hz, ez⟩ := h.done k p d hp hd (.inr ⟨rfl, hdi⟩)
            exact ⟨z, hz, by rw [run_snoc, (h.row k p hp).1]; exact ez.symm⟩
      obtain ⟨r, hr, er⟩ := key
      obtain ⟨g, hg⟩ := List.getElem?_of_mem hr
      exact ⟨g, r, (List.getElem?_eq_some_iff.mp hg).1, up hg, er⟩
  · rcases dn e with e | ⟨rfl, rfl⟩
    · exact hl q (List.mem_of_getElem? e)
    · simp at hj
theorem St.found {L : List (α × List Nat)} {k i : Nat} (h : St lead m last b L k i) {p : α × List Nat} (hp : L[L.length - 1]? = some p) : ∀ w, Rw m w → last (run lead b w) → ¬ sl w p.2 := fun w hw hlast hs => by
  obtain ⟨g, r, h1, h2, h3⟩ := h.least _ p w hp hw hs
  rw [h3] at hlast
  exact h.notlast g r h2 (by omega) hlast
theorem St.none {L : List (α × List Nat)} {k : Nat} (h : St lead m last b L k 0) (hk : L.length ≤ k) (hl : ∀ q ∈ L, ¬ last q.1) : ∀ w, Rw m w → ¬ last (run lead b w) := by
  have all : ∀ w, Rw m w → ∃ q ∈ L, run lead b w = q.1 := by
    intro w
    induction hn : w.length generalizing w with
    | zero => intro _; rw [List.length_eq_zero_iff.mp hn]; exact ⟨_, List.mem_of_getElem? h.zero, rfl⟩
    | succ n ih =>
      intro hw
      rcases List.eq_nil_or_concat w with rfl | ⟨u, d, rfl⟩
      · simp at hn
      · rw [List.concat_eq_append] at hn hw ⊢
        obtain ⟨q, hq, e⟩ := ih u (by simpa using hn) fun c hc => hw c (List.mem_append_left _ hc)
        obtain ⟨j, hj⟩ := List.getElem?_of_mem hq
        have hjl := (List.getElem?_eq_some_iff.mp hj).1
        obtain ⟨z, hz, ez⟩ := h.done j q d hj (hw d (List.mem_append_right _ List.mem_cons_self)) (.inl (by omega))
        exact ⟨z, hz, by rw [run_snoc, e]; exact ez.symm⟩
  intro w hw hlast
  obtain ⟨q, hq, e⟩ := all w hw
  rw [e] at hlast
  exact hl q hq hlast
end
end UW
set_option maxHeartbeats 1000000
namespace UW
section
variable {flag : Nat → Bool} {lead : Nat → Nat → Nat} {m n : Nat}
def Eb (flag : Nat → Bool) (lead : Nat → Nat → Nat) (m : Nat) : Nat → Nat → Nat → Bool
  | 0, i, j => flag i == flag j
  | k + 1, i, j => Eb flag lead m k i j && (List.range m).all fun c => Eb flag lead m k (lead i c) (lead j c)
theorem eb_succ {k i j : Nat} : Eb flag lead m (k + 1) i j = true ↔ Eb flag lead m k i j = true ∧ ∀ c, c < m → Eb flag lead m k (lead i c) (lead j c) = true := by
  show (Eb flag lead m k i j && (List.range m).all fun c => Eb flag lead m k (lead i c) (lead j c)) = true ↔ _
  rw [Bool.and_eq_true, List.all_eq_true]
  exact and_congr_right fun _ => ⟨fun h c hc => h c (List.mem_range.mpr hc), fun h c hc => h c (List.mem_range.mp hc)⟩
theorem eb_zero {k i j : Nat} (h : Eb flag lead m k i j = true) : flag i = flag j := by
  induction k with
  | zero => exact eq_of_beq h
  | succ k ih => exact ih (eb_succ.mp h).1
theorem eb_refl (k i : Nat) : Eb flag lead m k i i = true := by
  induction k generalizing i with
  | zero => exact beq_self_eq_true _
  | succ k ih => exact eb_succ.mpr ⟨ih i, fun c _ => ih _⟩
theorem eb_symm {k i j : Nat} (h : Eb flag lead m k i j = true) : Eb flag lead m k j i = true := by
  induction k generalizing i j with
  | zero => exact beq_iff_eq.mpr (eq_of_beq h).symm
  | succ k ih => exact eb_succ.mpr ⟨ih (eb_succ.mp h).1, fun c hc => ih ((eb_succ.mp h).2 c hc)⟩
theorem eb_trans {k i j l : Nat} (h : Eb flag lead m k i j = true) (g : Eb flag lead m k j l = true) : Eb flag lead m k i l = true := by
  induction k generalizing i j l with
  | zero => exact beq_iff_eq.mpr ((eq_of_beq h).trans (eq_of_beq g))
  | succ k ih => exact eb_succ.mpr ⟨ih (eb_succ.mp h).1 (eb_succ.mp g).1, fun c hc => ih ((eb_succ.mp h).2 c hc) ((eb_succ.mp g).2 c hc)⟩
theorem eb_row {k i j : Nat} : Eb flag lead m k i j = true ↔ ∀ w, Rw m w → w.length ≤ k → flag (run lead i w) = flag (run lead j w) := by
  induction k generalizing i j with
  | zero =>
    constructor
    · intro h w _ hl
      rw [List.length_eq_zero_iff.mp (Nat.le_zero.mp hl)]
      exact eq_of_beq h
    · intro h
      exact beq_iff_eq.mpr (h [] (fun _ h => nomatch h) (Nat.zero_le _))
  | succ k ih =>
    rw [eb_succ]
    constructor
    · rintro ⟨h1, h2⟩ w hw hl
      cases w with
      | nil => exact eb_zero h1
      | cons c u => exact ih.mp (h2 c (hw c List.mem_cons_self)) u (fun d hd => hw d (List.mem_cons_of_mem _ hd)) (by simpa using hl)
    · intro h
      refine ⟨ih.mpr fun w hw hl => h w hw (by omega), fun c hc => ih.mpr fun w hw hl => h (c :: w) (fun d hd => ?_) (by simpa using hl)⟩
      rcases List.mem_cons.mp hd with rfl | hd
      · exact hc
      · exact hw d hd
theorem eb_le {k l i j : Nat} (hkl : k ≤ l) (h : Eb flag lead m l i j = true) : Eb flag lead m k i j = true := eb_row.mpr fun w hw hl => eb_row.mp h w hw (by omega)
def Stb (flag : Nat → Bool) (lead : Nat → Nat → Nat) (m n k : Nat) : Prop := ∀ i j, i < n → j < n → Eb flag lead m k i j = true → Eb flag lead m (k + 1) i j = true
theorem stb_all (hl : ∀ i c, i < n → c < m → lead i c < n) {k : Nat} (h : Stb flag lead m n k) : ∀ t i j, i < n → j < n → Eb flag lead m k i j = true → Eb flag lead m (k + t) i j = true := by
  intro t
  induction t with
  | zero => intro i j _ _ e; exact e
  | succ t ih =>
    intro i j hi hj e
    exact eb_succ.mpr ⟨ih i j hi hj e, fun c hc => ih _ _ (hl i c hi hc) (hl j c hj hc) ((eb_succ.mp (h i j hi hj e)).2 c hc)⟩
def reps (flag : Nat → Bool) (lead : Nat → Nat → Nat) (m n k : Nat) : List Nat := (List.range n).filter fun i => (List.range i).all fun j => !Eb flag lead m k j i
theorem mem_reps {k i : Nat} : i ∈ reps flag lead m n k ↔ i < n ∧ ∀ j, j < i → Eb flag lead m k j i = false := by
  unfold reps
  rw [List.mem_filter, List.mem_range, List.all_eq_true]
  refine and_congr_right fun _ => ⟨fun h j hj => ?_, fun h j hj => ?_⟩
  · have := h j (List.mem_range.mpr hj); simpa using this
  · rw [h j (List.mem_range.mp hj)]; rfl
theorem filter_sub {α : Type} {p q : α → Bool} (h : ∀ a, p a = true → q a = true) : ∀ l : List α, (l.filter p).Sublist (l.filter q)
  | [] => .slnil
  | a :: l => by
    cases e : p a with
    | true => rw [List.filter_cons_of_pos e, List.filter_cons_of_pos (h a e)]; exact (filter_sub h l).cons₂ a
    | false =>
      rw [List.filter_cons_of_neg (by rw [e]; exact Bool.false_ne_true)]
      cases e2 : q a with
      | true => rw [List.filter_cons_of_pos e2]; exact (filter_sub h l).cons a
      | false => rw [List.filter_cons_of_neg (by rw [e2]; exact Bool.false_ne_true)]; exact filter_sub h l
theorem reps_sub (k : Nat) : (reps flag lead m n k).Sublist (reps flag lead m n (k + 1)) := by
  unfold reps
  refine filter_sub (fun i h => ?_) _
  rw [List.all_eq_true] at h ⊢
  intro j hj
  have := h j hj
  rw [Bool.not_eq_true'] at this ⊢
  cases e : Eb flag lead m (k + 1) j i with
  | false => rfl
  | true => rw [eb_le (Nat.le_succ k) e] at this; exact this
theorem has_rep (k : Nat) : ∀ i, i < n → ∃ r ∈ reps flag lead m n k, Eb flag lead m k r i = true := by
  intro i
  induction i using Nat.strongRecOn with
  | _ i ih =>
    intro hi
    by_cases h : i ∈ reps flag lead m n k
    · exact ⟨i, h, eb_refl k i⟩
    · rw [mem_reps] at h
      have : ∃ j, j < i ∧ Eb flag lead m k j i = true := by
        apply Classical.byContradiction
        intro hc
        refine h ⟨hi, fun j hj => ?_⟩
        cases e : Eb flag lead m k j i with
        | false => rfl
        | true => exact absurd ⟨j, hj, e⟩ hc
      obtain ⟨j, hj, e⟩ := this
      obtain ⟨r, hr, er⟩ := ih j hj (by omega)
      exact ⟨r, hr, eb_trans er e⟩
theorem rep_uniq {k r s : Nat} (hr : r ∈ reps flag lead m n k) (hs : s ∈ reps flag lead m n k) (h : Eb flag lead m k r s = true) : r = s := by
  rcases Nat.lt_trichotomy r s with l | l | l
  · rw [(mem_reps.mp hs).2 r l] at h; cases h
  · exact l
  · have := eb_symm h
    rw [(mem_reps.mp hr).2 s l] at this; cases this
theorem stb_of {k : Nat} (h : (reps flag lead m n k).length = (reps flag lead m n (k + 1)).length) : Stb flag lead m n k := by
  have e := (reps_sub (flag := flag) (lead := lead) (m := m) (n := n) k).eq_of_length h
  intro i j hi hj hij
  obtain ⟨r, hr, er⟩ := has_rep (flag := flag) (lead := lead) (m := m) (k + 1) i hi
  obtain ⟨s, hs, es⟩ := has_rep (flag := flag) (lead := lead) (m := m) (k + 1) j hj
  rw [← e] at hr hs
  have : r = s := rep_uniq hr hs (eb_trans (eb_le (Nat.le_succ k) er) (eb_trans hij (eb_symm (eb_le (Nat.le_succ k) es))))
  subst this
  exact eb_trans (eb_symm er) es
theorem reps_le (k : Nat) : (reps flag lead m n k).length ≤ n := by
  have := List.length_filter_le (fun i => (List.range i).all fun j => !Eb flag lead m k j i) (List.range n)
  rw [List.length_range] at this
  exact this
theorem reps_pos (k : Nat) (h : 0 < n) : 0 < (reps flag lead m n k).length := List.length_pos_of_mem (mem_reps.mpr ⟨h, fun j hj => by omega⟩)
theorem three (hl : ∀ i c, i < n → c < m → lead i c < n) (hn : n ≤ 4) {i j : Nat} (hi : i < n) (hj : j < n) (h : Eb flag lead m 3 i j = true) : ∀ w, Rw m w → flag (run lead i w) = flag (run lead j w) := by
  have key : ∃ k, k ≤ 3 ∧ Stb flag lead m n k := by
    apply Classical.byContradiction
    intro hc
    have up : ∀ k, k ≤ 3 → (reps flag lead m n k).length < (reps flag lead m n (k + 1)).length := fun k hk => by
      rcases Nat.lt_or_ge (reps flag lead m n k).length (reps flag lead m n (k + 1)).length with l | l
      · exact l
      · exact absurd ⟨k, hk, stb_of (Nat.le_antisymm (reps_sub k).length_le l)⟩ hc
    have h0 := reps_pos (flag := flag) (lead := lead) (m := m) 0 (show 0 < n by omega)
    have h1 : (reps flag lead m n 0).length < (reps flag lead m n 1).length := up 0 (by omega)
    have h2 : (reps flag lead m n 1).length < (reps flag lead m n 2).length := up 1 (by omega)
    have h3 : (reps flag lead m n 2).length < (reps flag lead m n 3).length := up 2 (by omega)
    have h4 : (reps flag lead m n 3).length < (reps flag lead m n 4).length := up 3 (by omega)
    have h5 := reps_le (flag := flag) (lead := lead) (m := m) (n := n) 4
    omega
  obtain ⟨k, hk, st⟩ := key
  intro w hw
  exact eb_row.mp (stb_all hl st w.length i j hi hj (eb_le hk h)) w hw (by omega)
end
end UW
set_option maxHeartbeats 1000000
namespace UW
section
variable {α : Type} [DecidableEq α]
theorem sub_len : ∀ (U l : List α), l.Nodup → (∀ x ∈ l, x ∈ U) → l.length ≤ U.length := by
  intro U
  induction U with
  | nil =>
    intro l _ h
    cases l with
    | nil => exact Nat.le_refl _
    | cons a l => exact absurd (h a List.mem_cons_self) (by intro z; cases z)
  | cons u U ih =>
    intro l nd h
    have := ih (l.erase u) (nd.erase u) fun x hx => by
      have h1 := (nd.mem_erase_iff).mp hx
      rcases List.mem_cons.mp (h x h1.2) with z | z
      · exact absurd z h1.1
      · exact z
    have e := List.length_erase (a := u) (l := l)
    rw [List.length_cons]
    split at e <;> omega
theorem same_len {l1 l2 : List α} (n1 : l1.Nodup) (n2 : l2.Nodup) (h : ∀ x, x ∈ l1 ↔ x ∈ l2) : l1.length = l2.length :=
  Nat.le_antisymm (sub_len l2 l1 n1 fun x hx => (h x).mp hx) (sub_len l1 l2 n2 fun x hx => (h x).mpr hx)
def ins (acc : List α) (x : α) : List α := if x ∈ acc then acc else acc ++ [x]
def firsts (xs : List α) : List α := xs.foldl ins []
theorem ins_mem {acc : List α} {x y : α} : y ∈ ins acc x ↔ y ∈ acc ∨ y = x := by
  unfold ins
  split
  · rename_i h
    exact ⟨.inl, fun k => k.elim id fun e => e ▸ h⟩
  · rw [List.mem_append, List.mem_singleton]
theorem ins_nodup {acc : List α} {x : α} (h : acc.Nodup) : (ins acc x).Nodup := by
  unfold ins
  split
  · exact h
  · rename_i hn
    rw [List.nodup_append]
    exact ⟨h, by simp, fun a ha b hb e => hn (by rw [List.mem_singleton] at hb; rw [← hb, ← e]; exact ha)⟩
theorem firsts_snoc (xs : List α) (x : α) : firsts (xs ++ [x]) = ins (firsts xs) x := by unfold firsts; rw [List.foldl_append]; rfl
theorem fold_mem (xs : List α) : ∀ (acc : List α) (y : α), y ∈ xs.foldl ins acc ↔ y ∈ acc ∨ y ∈ xs := by
  induction xs with
  | nil => intro acc y; simp
  | cons x xs ih =>
    intro acc y
    rw [List.foldl_cons, ih, ins_mem, List.mem_cons]
    exact ⟨fun h => h.elim (fun h => h.elim .inl fun e => .inr (.inl e)) fun h => .inr (.inr h), fun h => h.elim (fun h => .inl (.inl h)) fun h => h.elim (fun e => .inl (.inr e)) .inr⟩
theorem fold_nodup (xs : List α) : ∀ (acc : List α), acc.Nodup → (xs.foldl ins acc).Nodup := by
  induction xs with
  | nil => intro acc h; exact h
  | cons x xs ih => intro acc h; exact ih _ (ins_nodup h)
theorem firsts_mem {xs : List α} {y : α} : y ∈ firsts xs ↔ y ∈ xs := by unfold firsts; rw [fold_mem]; simp
theorem firsts_nodup (xs : List α) : (firsts xs).Nodup := fold_nodup xs [] List.nodup_nil
def num (xs : List α) : List Nat := xs.map fun x => (firsts xs).idxOf x
theorem num_len (xs : List α) : (num xs).length = xs.length := by unfold num; rw [List.length_map]
theorem idx_inj {l : List α} {x y : α} (hx : x ∈ l) (h : l.idxOf x = l.idxOf y) : x = y := by
  have h1 := List.idxOf_lt_length_of_mem hx
  have e1 : l[l.idxOf x]? = some x := by rw [List.getElem?_eq_getElem h1, List.getElem_idxOf]
  have h2 : l.idxOf y < l.length := by rw [← h]; exact h1
  have e2 : l[l.idxOf y]? = some y := by rw [List.getElem?_eq_getElem h2, List.getElem_idxOf]
  rw [h, e2] at e1
  exact (Option.some.inj e1).symm
theorem num_eq {xs : List α} {i j : Nat} {x y : α} (hi : xs[i]? = some x) (hj : xs[j]? = some y) : (num xs)[i]? = (num xs)[j]? ↔ x = y := by
  unfold num
  rw [List.getElem?_map, List.getElem?_map, hi, hj]
  constructor
  · intro h
    exact idx_inj (firsts_mem.mpr (List.mem_of_getElem? hi)) (Option.some.inj h)
  · intro h; rw [h]
theorem num_lt {xs : List α} {k : Nat} (h : k ∈ num xs) : k < (firsts xs).length := by
  obtain ⟨x, hx, rfl⟩ := List.mem_map.mp h
  exact List.idxOf_lt_length_of_mem (firsts_mem.mpr hx)
theorem num_all {xs : List α} {k : Nat} (h : k < (firsts xs).length) : k ∈ num xs := by
  refine List.mem_map.mpr ⟨(firsts xs)[k], firsts_mem.mp (List.getElem_mem h), ?_⟩
  exact (firsts_nodup xs).idxOf_getElem k h
end
section
variable {α : Type} [DecidableEq α] {flag : Nat → Bool} {lead : Nat → Nat → Nat} {m n : Nat}
theorem firsts_reps {xs : List α} {k : Nat} (hn : xs.length = n) (h : ∀ i j x y, xs[i]? = some x → xs[j]? = some y → (x = y ↔ Eb flag lead m k i j = true)) : (firsts xs).length = (reps flag lead m n k).length := by
  have hget : ∀ i ∈ reps flag lead m n k, ∃ x, xs[i]? = some x := fun i hi => ⟨_, List.getElem?_eq_getElem (by rw [hn]; exact (mem_reps.mp hi).1)⟩
  have key : ∀ l : List Nat, l.Nodup → (∀ i ∈ l, i ∈ reps flag lead m n k) → (l.filterMap fun i => xs[i]?).Nodup ∧ (l.filterMap fun i => xs[i]?).length = l.length := by
    intro l
    induction l with
    | nil => intro _ _; exact ⟨List.nodup_nil, rfl⟩
    | cons i l ih =>
      intro nd hl
      rw [List.nodup_cons] at nd
      obtain ⟨h1, h2⟩ := ih nd.2 fun j hj => hl j (List.mem_cons_of_mem _ hj)
      obtain ⟨x, hx⟩ := hget i (hl i List.mem_cons_self)
      rw [List.filterMap_cons, hx]
      refine ⟨List.nodup_cons.mpr ⟨fun hm => ?_, h1⟩, by rw [List.length_cons, List.length_cons, h2]⟩
      obtain ⟨j, hj, e⟩ := List.mem_filterMap.mp hm
      have := rep_uniq (hl i List.mem_cons_self) (hl j (List.mem_cons_of_mem _ hj)) ((h i j x x hx e).mp rfl)
      exact nd.1 (by rw [this]; exact hj)
  have ndr : (reps flag lead m n k).Nodup := by unfold reps; exact List.nodup_range.filter _
  obtain ⟨k1, k2⟩ := key _ ndr fun i hi => hi
  rw [← k2]
  refine same_len (firsts_nodup xs) k1 fun y => ?_
  rw [firsts_mem, List.mem_filterMap]
  constructor
  · intro hy
    obtain ⟨i, hi⟩ := List.getElem?_of_mem hy
    have hin : i < n := by rw [← hn]; exact (List.getElem?_eq_some_iff.mp hi).1
    obtain ⟨r, hr, er⟩ := has_rep (flag := flag) (lead := lead) (m := m) k i hin
    obtain ⟨x, hx⟩ := hget r hr
    have := (h r i x y hx hi).mpr er
    exact ⟨r, hr, by rw [hx, this]⟩
  · rintro ⟨i, _, e⟩
    exact List.mem_of_getElem? e
theorem next_eq {g : List Nat} {k : Nat} (hg : g.length = n) (hl : ∀ i c, i < n → c < m → lead i c < n) (h : ∀ i j, i < n → j < n → (g.getD i 0 = g.getD j 0 ↔ Eb flag lead m k i j = true)) (i j : Nat) (hi : i < n) (hj : j < n) :
    ((g.getD i 0, (List.range m).map fun c => g.getD (lead i c) 0) = (g.getD j 0, (List.range m).map fun c => g.getD (lead j c) 0)) ↔ Eb flag lead m (k + 1) i j = true := by
  rw [eb_succ, Prod.mk.injEq]
  constructor
  · rintro ⟨h1, h2⟩
    refine ⟨(h i j hi hj).mp h1, fun c hc => (h _ _ (hl i c hi hc) (hl j c hj hc)).mp ?_⟩
    have := congrArg (fun l : List Nat => l[c]?) h2
    simpa [hc] using this
  · rintro ⟨h1, h2⟩
    refine ⟨(h i j hi hj).mpr h1, List.map_congr_left fun c hc => (h _ _ (hl i c hi (List.mem_range.mp hc)) (hl j c hj (List.mem_range.mp hc))).mpr (h2 c (List.mem_range.mp hc))⟩
end
end UW
set_option maxHeartbeats 2000000
namespace LX
open PySem PySem.Spec PyProof.Rows L2 C8 SX
mutual
inductive NK (K : PySem.W.Frag) (H : Hp) : V → NestedKey → Prop
  | int (i : Int) : NK K H (.int i) (.num i)
  | bl (b : Bool) : NK K H (.bl b) (.num (if b = true then 1 else 0))
  | str (x : Str) : NK K H (.str x) (.text x)
  | tup {p : Addr} {xs : List V} {ks : List NestedKey} (h : SqT K H p xs) (hs : NKs K H xs ks) : NK K H (.ref p) (.tup ks)
inductive NKs (K : PySem.W.Frag) (H : Hp) : List V → List NestedKey → Prop
  | nil : NKs K H [] []
  | cons {x : V} {k : NestedKey} {xs : List V} {ks : List NestedKey} (h : NK K H x k) (hs : NKs K H xs ks) : NKs K H (x :: xs) (k :: ks)
end
mutual
theorem nk_same {K : PySem.W.Frag} {H H' : Hp} (s : Same H H') : ∀ (k : NestedKey) (x : V), NK K H x k → NK K H' x k
  | .num i, x, h => by
    cases h with
    | int => exact .int i
    | bl b => exact .bl b
  | .text y, x, h => by cases h with | str => exact .str y
  | .none, x, h => by cases h
  | .tup ks, x, h => by
    cases h with
    | tup h hs => exact .tup (sm_seqT s h) (nks_same s ks _ hs)
theorem nks_same {K : PySem.W.Frag} {H H' : Hp} (s : Same H H') : ∀ (ks : List NestedKey) (xs : List V), NKs K H xs ks → NKs K H' xs ks
  | [], xs, h => by cases h; exact .nil
  | k :: ks, xs, h => by
    cases h with
    | cons h hs => exact .cons (nk_same s k _ h) (nks_same s ks _ hs)
end
section
variable {X : Cx} {pins : List (Addr × Obj)} {σ : L2.St} {H : Hp} {s : Shared}
mutual
theorem nk_is (I : Inv X pins σ H s) : ∀ (k : NestedKey) (x : V) (v : Value), NK X.K H x k → RelV x v → NestedIs s.heap k v
  | .num i, x, v, h, r => by
    cases h with
    | int => obtain ⟨t, rfl⟩ := r; exact .int i t
    | bl b => cases r; exact .bool rfl
  | .text y, x, v, h, r => by
    cases h with
    | str => obtain ⟨t, rfl⟩ := r; exact .text y t
  | .none, x, v, h, r => by cases h
  | .tup ks, x, v, h, r => by
    cases h with
    | @tup p xs _ h hs =>
      cases r
      obtain ⟨its, r', ⟨o, ho, hc, n, hd⟩, _⟩ := I.tuple h
      exact .tup ho hc hd (nks_is I ks xs _ hs r')
theorem nks_is (I : Inv X pins σ H s) : ∀ (ks : List NestedKey) (xs : List V) (vs : List Value), NKs X.K H xs ks → Vals xs vs → NestedAll s.heap ks vs
  | [], xs, vs, h, r => by cases h; cases r; exact .nil
  | k :: ks, xs, vs, h, r => by
    cases h with
    | cons h hs =>
      cases r with
      | cons r rs => exact .cons (nk_is I k _ _ h r) (nks_is I ks _ _ hs rs)
end
end
abbrev NKV := List (NestedKey × Addr × V)
def NP : NKV → List (NestedKey × Addr × Value) → Prop := Paired fun p q => p.1 = q.1 ∧ p.2.1 = q.2.1 ∧ RelV p.2.2 q.2.2
def NDR (P : Program) (w : World) (h : Heap) (a : Addr) (kvs : NKV) : Prop := (a == sysModules) = false ∧ kvs.length ≤ sizeLine ∧ ∃ xs, NP kvs xs ∧ ∃ o es ep, h.get? a = some o ∧ o.ExactDict ∧ o.data = .dict es ep ∧ es.toList = xs.map (entryOfKey (nestedKind P w)) ∧ (xs.map (·.1)).Nodup
def NDO (P : Program) (w : World) (a : Addr) (kvs : NKV) : HO := .ext fun h => NDR P w h a kvs
def atN (kvs : NKV) (k : NestedKey) : Option V := (kvs.find? fun p => decide (p.1 = k)).map (·.2.2)
def putN (kvs : NKV) (k : NestedKey) (a : Addr) (y : V) : NKV := if (atN kvs k).isSome then kvs.map (fun p => if p.1 = k then (p.1, p.2.1, y) else p) else kvs ++ [(k, a, y)]
theorem np_some {kvs : NKV} {xs : List (NestedKey × Addr × Value)} {k : NestedKey} {y : V} (h : NP kvs xs) (e : atN kvs k = some y) : ∃ p, atKey xs k = some p ∧ RelV y p.2 := by
  unfold NP at h
  induction h with
  | nil => cases e
  | @cons p q ps qs h t ih =>
    obtain ⟨h1, h2, h3⟩ := h
    unfold atN atKey at *
    by_cases hk : p.1 = k
    · rw [List.find?_cons_of_pos (by simpa using hk)] at e
      cases e
      exact ⟨q.2, by rw [List.find?_cons_of_pos (by rw [← h1]; simpa using hk)]; rfl, h3⟩
    · rw [List.find?_cons_of_neg (by simpa using hk)] at e
      obtain ⟨r, er, rr⟩ := ih e
      exact ⟨r, by rw [List.find?_cons_of_neg (by rw [← h1]; simpa using hk)]; exact er, rr⟩
theorem np_none {kvs : NKV} {xs : List (NestedKey × Addr × Value)} {k : NestedKey} (h : NP kvs xs) (e : atN kvs k = none) : atKey xs k = none := by
  unfold NP at h
  induction h with
  | nil => rfl
  | @cons p q ps qs h t ih =>
    obtain ⟨h1, h2, h3⟩ := h
    unfold atN atKey at *
    by_cases hk : p.1 = k
    · rw [List.find?_cons_of_pos (by simpa using hk)] at e
      cases e
    · rw [List.find?_cons_of_neg (by simpa using hk)] at e
      rw [List.find?_cons_of_neg (by rw [← h1]; simpa using hk)]
      exact ih e
theorem np_iff {kvs : NKV} {xs : List (NestedKey × Addr × Value)} {k : NestedKey} (h : NP kvs xs) : (atKey xs k).isSome = (atN kvs k).isSome := by
  cases e : atN kvs k with
  | none => rw [np_none h e]; rfl
  | some y => obtain ⟨p, ep, _⟩ := np_some h e; rw [ep]; rfl
theorem np_map {kvs : NKV} {xs : List (NestedKey × Addr × Value)} {k : NestedKey} {y : V} {v : Value} (h : NP kvs xs) (r : RelV y v) : NP (kvs.map fun p => if p.1 = k then (p.1, p.2.1, y) else p) (xs.map (putAt k v)) := by
  unfold NP at h ⊢
  induction h with
  | nil => exact .nil
  | @cons p q ps qs h t ih =>
    obtain ⟨h1, h2, h3⟩ := h
    rw [List.map_cons, List.map_cons]
    refine .cons ?_ ih
    unfold putAt
    by_cases hk : p.1 = k
    · rw [if_pos hk, if_pos (by rw [← h1]; exact hk)]; exact ⟨h1, h2, r⟩
    · rw [if_neg hk, if_neg (by rw [← h1]; exact hk)]; exact ⟨h1, h2, h3⟩
theorem np_app {kvs : NKV} {xs : List (NestedKey × Addr × Value)} {k : NestedKey} {a : Addr} {y : V} {v : Value} (h : NP kvs xs) (r : RelV y v) : NP (kvs ++ [(k, a, y)]) (xs ++ [(k, a, v)]) := by
  unfold NP at h ⊢
  induction h with
  | nil => exact .cons ⟨rfl, rfl, r⟩ .nil
  | cons h t ih => exact .cons h ih
theorem np_put {kvs : NKV} {xs : List (NestedKey × Addr × Value)} {k : NestedKey} {a : Addr} {y : V} {v : Value} (h : NP kvs xs) (r : RelV y v) : NP (putN kvs k a y) (storedH xs k a v) := by
  unfold putN storedH
  rw [np_iff h]
  split
  · exact np_map h r
  · exact np_app h r
theorem putN_len (kvs : NKV) (k : NestedKey) (a : Addr) (y : V) : (putN kvs k a y).length ≤ kvs.length + 1 := by
  unfold putN
  split
  · rw [List.length_map]; omega
  · rw [List.length_append]; simp
section
variable {X : Cx} {pins : List (Addr × Obj)} {σ : L2.St} {H : Hp} {s : Shared} {a : Addr} {kvs : NKV}
theorem nd_new {P : Program} {w : World} {h : Heap} (R : NDR P w h a kvs) : ObjOk P w H h a (NDO P w a kvs) := by
  obtain ⟨r1, r2, xs, r3, o, es, ep, h1, h2, h3, h4, h5⟩ := id R
  exact ⟨R, ⟨o, h1⟩, fun g1 g2 ⟨q1, q2, ys, q3, u, es', ep', p1, p2, p3, p4, p5⟩ kk => ⟨q1, q2, ys, q3, u, es', ep', kk _ p1, p2, p3, p4, p5⟩⟩
def NKeys (K : PySem.W.Frag) (H : Hp) (kvs : NKV) : Prop := ∀ p ∈ kvs, NK K H (.ref p.2.1) p.1 ∧ p.1.depth ≤ 8
theorem NKeys.same {K : PySem.W.Frag} {H' : Hp} (h : NKeys K H kvs) (s : Same H H') : NKeys K H' kvs := fun p hp => ⟨nk_same s _ _ (h p hp).1, (h p hp).2⟩
theorem nd_dict (I : Inv X pins σ H s) (ha : H a = some (NDO X.prog X.w a kvs)) (hk : NKeys X.K H kvs) : (a == sysModules) = false ∧ kvs.length ≤ sizeLine ∧ ∃ xs, NP kvs xs ∧ s.heap.DictOfH (nestedKind X.prog X.w) a xs := by
  obtain ⟨r1, r2, xs, r3, o, es, ep, h1, h2, h3, h4, h5⟩ := (I.hok a _ ha).1
  refine ⟨r1, r2, xs, r3, o, es, ep, h1, h2, h3, h4, fun q hq => ?_, h5⟩
  have : ∀ {l : NKV} {m : List (NestedKey × Addr × Value)}, NP l m → (∀ p ∈ l, NK X.K H (.ref p.2.1) p.1 ∧ p.1.depth ≤ 8) → ∀ q ∈ m, (nestedKind X.prog X.w).is s.heap q.1 q.2.1 := by
    intro l m np
    unfold NP at np
    induction np with
    | nil => intro _ q hq; cases hq
    | @cons p q ps qs h t ih =>
      intro hl z hz
      rcases List.mem_cons.mp hz with rfl | hz
      · obtain ⟨e1, e2, _⟩ := h
        obtain ⟨n1, n2⟩ := hl p List.mem_cons_self
        rw [← e1, ← e2]
        exact ⟨nk_is I _ _ _ n1 rfl, n2⟩
      · exact ih (fun p hp => hl p (List.mem_cons_of_mem _ hp)) z hz
  exact this r3 hk q hq
def tDNewN (P : Program) (w : World) : TE := fun σ H Q => ∀ p, H p = none → Q (.ref p) (upd H p (NDO P w p []))
theorem pe_dnewN {pos : Pos} : PE X (.Dict [] [] pos) (tDNewN X.prog X.w) := ⟨fun pins s σ H Q I h => by
  refine wpAny_Dict_empty ⟨.ref s.heap.objs.size, _, I.laid (a := s.heap.objs.size) (o := NDO X.prog X.w s.heap.objs.size []) (t' := s.toks) (fun _ _ q => Heap.get?_push_of_some _ q) (Nat.le_refl _) (nd_new ?_), rfl, h _ (I.hok.fresh (Nat.le_refl _))⟩
  have e := dt_empty (P := X.prog) (w := X.w) (H := upd H s.heap.objs.size (.dT [])) s.heap I.big
  obtain ⟨z, hd, xs, rel, o, es, ep, h1, h2, h3, h4, h5⟩ := (show ObjOk X.prog X.w _ _ _ (.dT []) from e)
  cases rel
  exact ⟨hd, Nat.zero_le _, [], .nil, o, es, ep, h1, h2, h3, h4, List.nodup_nil⟩⟩
def rInN (K : PySem.W.Frag) (P : Program) (w : World) (f : Bool → Bool) : R2 := fun x y H Q => ∃ (t a : Addr) (k : NestedKey) (kvs : NKV), x = .ref t ∧ NK K H x k ∧ k.depth ≤ 8 ∧ y = .ref a ∧ H a = some (NDO P w a kvs) ∧ NKeys K H kvs ∧ Q (.bl (f (atN kvs k).isSome)) H
theorem op_inN (hu : X.A.in1.units + 8 < cLine) : OpR X (compareOp .In) (rInN X.K X.prog X.w fun b => b) := by
  intro pins s σ H x y v u Q I rx ry h
  obtain ⟨t, a, k, kvs, rfl, nk, hd8, rfl, ha, hk, q⟩ := h
  cases rx
  cases ry
  obtain ⟨hd, hz, xs, np, dd⟩ := nd_dict I ha hk
  refine wpAny_in_heap (knd := nestedKind X.prog X.w) hu ⟨nk_is I _ _ _ nk rfl, hd8⟩ hd dd ?_
  rw [np_iff np]
  exact ⟨.bl _, H, I.tok _, rfl, q⟩
theorem op_notInN (hu : X.A.in1.units + 8 < cLine) : OpR X (compareOp .NotIn) (rInN X.K X.prog X.w fun b => !b) := by
  intro pins s σ H x y v u Q I rx ry h
  obtain ⟨t, a, k, kvs, rfl, nk, hd8, rfl, ha, hk, q⟩ := h
  cases rx
  cases ry
  obtain ⟨hd, hz, xs, np, dd⟩ := nd_dict I ha hk
  refine wpAny_notIn_heap (knd := nestedKind X.prog X.w) hu ⟨nk_is I _ _ _ nk rfl, hd8⟩ hd dd ?_
  rw [np_iff np]
  exact ⟨.bl _, H, I.tok _, rfl, q⟩
def rSetN (K : PySem.W.Frag) (P : Program) (w : World) : V → V → V → Hp → (Hp → Prop) → Prop := fun o i v H Q => ∃ (t a : Addr) (k : NestedKey) (kvs : NKV), o = .ref a ∧ i = .ref t ∧ NK K H i k ∧ k.depth ≤ 8 ∧ H a = some (NDO P w a kvs) ∧ NKeys K H kvs ∧ kvs.length < sizeLine ∧ Q (upd H a (NDO P w a (putN kvs k t v)))
theorem set_dictN (hu : X.A.in1.units + 8 < cLine) : PSet X (rSetN X.K X.prog X.w) := by
  intro pins s σ H o i v ov iv u Q I ro ri rv h
  obtain ⟨t, a, k, kvs, rfl, rfl, nk, hd8, ha, hk, hl, q⟩ := h
  cases ro
  cases ri
  obtain ⟨hd, hz, xs, np, dd⟩ := nd_dict I ha hk
  refine wpAny_setItem_heap (knd := nestedKind X.prog X.w) (hsz := by rw [← Paired.length np]; exact hz) hu ⟨nk_is I _ _ _ nk rfl, hd8⟩ dd fun h' dd' hs => ?_
  obtain ⟨o, es, ep, h1, h2, h3, h4, _, h5⟩ := dd'
  refine ⟨_, I.write (e := a) (by rw [ha]; trivial) (.inl rfl) (fun b u hb hu => (hs.2 b hb).trans hu) ⟨o, h1⟩ (nd_new ⟨hd, ?_, _, np_put np rv, o, es, ep, h1, h2, h3, h4, h5⟩), q⟩
  have := putN_len kvs k t v
  omega
def tDGetN (K : PySem.W.Frag) (P : Program) (w : World) (td ty : TE) : TE := fun σ H Q => td σ H fun x H1 => ty σ H1 fun y H2 => ∃ (t a : Addr) (k : NestedKey) (kvs : NKV) (z : V), x = .ref a ∧ y = .ref t ∧ NK K H2 y k ∧ k.depth ≤ 8 ∧ H2 a = some (NDO P w a kvs) ∧ NKeys K H2 kvs ∧ atN kvs k = some z ∧ Q z H2
theorem pe_dgetN {o i : Expr} {pos : Pos} {td ty : TE} (hu : X.A.in1.units + 8 < cLine) (ho : PE X o td) (hi : PE X i ty) (hs : NoSl i) : PE X (.Subscript o i pos) (tDGetN X.K X.prog X.w td ty) := by
  refine ⟨fun pins s σ H Q I h => ?_⟩
  refine subD_of PySem.F.slot_dict_getitem.lookup hs (thn (ho.run pins s σ H _ I h) fun u s1 ⟨x, H1, I1, rx, q1⟩ => thn (hi.run pins s1 σ H1 _ I1 q1) fun iv s2 ⟨y, H2, I2, ry, t, a, k, kvs, z, ex, ey, nk, hd8, ha, hk, e, q2⟩ => ?_)
  subst ex ey
  obtain rfl : u = Value.ref a := rx
  obtain rfl : iv = Value.ref t := ry
  obtain ⟨hd, hz, xs, np, dd⟩ := nd_dict I2 ha hk
  obtain ⟨p, ep, rp⟩ := np_some np e
  exact ⟨dd.typeIs, wpAny_getItem_heap (knd := nestedKind X.prog X.w) hu ⟨nk_is I2 _ _ _ nk rfl, hd8⟩ dd ep ⟨z, H2, I2.tok _, rp, q2⟩⟩
theorem call_lenN : CallR X (.builtin "len") (fun xs H Q => ∃ (a : Addr) (kvs : NKV), xs = [.ref a] ∧ H a = some (NDO X.prog X.w a kvs) ∧ NKeys X.K H kvs ∧ Q (.int (kvs.length : Nat)) H) := by
  intro pins s σ H xs us Q I r h
  obtain ⟨a, kvs, rfl, ha, hk, q⟩ := h
  obtain ⟨u, rfl, rx⟩ := vals1 r
  obtain rfl : u = .ref a := rx
  obtain ⟨hd, hz, ys, np, dd⟩ := nd_dict I ha hk
  have hl : kvs.length = ys.length := Paired.length np
  refine call_len_dictH hd dd (by rw [← hl]; rw [sizeLine_eq] at hz; omega) ?_
  rw [← hl]
  exact ⟨.int ((kvs.length : Nat) : Int), H, I.tok _, ⟨_, rfl⟩, q⟩
def tDisp1N (K : PySem.W.Frag) (P : Program) (w : World) (tk tv : TE) : TE := fun σ H Q => ∀ p, H p = none → tk σ (upd H p (NDO P w p [])) fun x H1 => tv σ H1 fun y H2 => ∃ (t : Addr) (k : NestedKey), x = .ref t ∧ NK K H2 x k ∧ k.depth ≤ 8 ∧ H2 p = some (NDO P w p []) ∧ Q (.ref p) (upd H2 p (NDO P w p [(k, t, y)]))
theorem nd_empty (s : Shared) (big : sysModules < s.heap.objs.size) {P : Program} {w : World} {H : Hp} : NDR P w (s.heap.push { cls := .type "dict", data := .dict #[] }) s.heap.objs.size [] := by
  have e := dt_empty (P := P) (w := w) (H := H) s.heap big
  obtain ⟨z, hd, xs, rel, o, es, ep, h1, h2, h3, h4, h5⟩ := (show ObjOk P w _ _ _ (.dT []) from e)
  cases rel
  exact ⟨hd, Nat.zero_le _, [], .nil, o, es, ep, h1, h2, h3, h4, List.nodup_nil⟩
theorem pe_disp1N {k v : Expr} {pos : Pos} {tk tv : TE} (hu : X.A.in1.units + 8 < cLine) (hu0 : X.A.units + 8 < cLine) (hk : PE X k tk) (hv : PE X v tv) : PE X (.Dict [some k] [v] pos) (tDisp1N X.K X.prog X.w tk tv) := by
  refine ⟨fun pins s σ H Q I q => ?_⟩
  have hn := I.hok.fresh (Nat.le_refl s.heap.objs.size)
  have I1 := I.laid (a := s.heap.objs.size) (o := NDO X.prog X.w s.heap.objs.size []) (h' := s.heap.push { cls := .type "dict", data := .dict #[] }) (t' := s.toks) (fun _ _ q => Heap.get?_push_of_some _ q) (Nat.le_refl _) (nd_new (nd_empty s I.big (H := upd H s.heap.objs.size (.dT []))))
  have hs := zip_pairTrees [some k] [v] X.env pos rfl rfl
  rw [arm_eval_Dict, hs, dictDisplay_pairs (pairTrees [some k] [v] X.env pos) (by intro h; cases h) (by show 1 < 17; decide)]
  refine wpAny_bind (wpAny_standAt (wpAny_bind ?_))
  unfold subDict
  refine wpAny_bind (wpAny_alloc ?_)
  refine wpAny_bind (wpAny_holding ?_)
  rw [if_pos (show (pairTrees [some k] [v] X.env pos).length ≤ 15 by show 1 ≤ 15; decide)]
  refine wpAny_bind (pairTrees_cons_walk (thn (hk.run pins _ σ _ _ I1 (q _ hn)) fun u s1 ⟨x, H1, I1', rx, q1⟩ => thn (hv.run pins s1 σ H1 _ I1' q1) fun w2 s2 ⟨y, H2, I2, ry, t, key, ex, nk, hd8, ep, q2⟩ => pairTrees_nil_walk ?_))
  subst ex
  obtain rfl : u = Value.ref t := rx
  obtain ⟨hd, z, xs, rel, dd⟩ := nd_dict I2 ep (fun p hp => nomatch hp)
  cases rel
  refine wpAny_holding ?_
  refine wpAny_bind ?_
  rw [List.forIn_cons]
  refine wpAny_bind (wpAny_bind ?_)
  refine wpAny_dictSet_heap (knd := nestedKind X.prog X.w) (hsz := Nat.zero_le _) hu0 ⟨nk_is I2 _ _ _ nk rfl, hd8⟩ dd fun h' dd' hs' => ?_
  refine wpAny_pure ?_
  show wpAny _ _ (forIn ([] : List (Value × Value)) PUnit.unit _) _ _ _
  rw [List.forIn_nil]
  refine wpAny_pure (wpAny_pure (wpAny_pure (wpAny_pure ?_)))
  obtain ⟨qo, es, ep2, hq, h2, h3, h4, _, h5⟩ := dd'
  refine ⟨.ref s.heap.objs.size, upd H2 s.heap.objs.size (NDO X.prog X.w s.heap.objs.size [(key, t, y)]), ?_, rfl, q2⟩
  exact I2.write (e := s.heap.objs.size) (by rw [ep]; trivial) (.inl rfl) (fun b u hb hu => (hs'.2 b hb).trans hu) ⟨qo, hq⟩ (nd_new ⟨hd, by show 1 ≤ sizeLine; decide, _, .cons ⟨rfl, rfl, ry⟩ .nil, qo, es, ep2, hq, h2, h3, h4, h5⟩)
def rSdefN (K : PySem.W.Frag) (P : Program) (w : World) : V → List V → Hp → VK → Prop := fun x vs H Q => ∃ (t a : Addr) (k : NestedKey) (kvs : NKV) (y : V), x = .ref a ∧ vs = [.ref t, y] ∧ NK K H (.ref t) k ∧ k.depth ≤ 8 ∧ H a = some (NDO P w a kvs) ∧ NKeys K H kvs ∧ kvs.length < sizeLine ∧
  (∀ z, atN kvs k = some z → Q z H) ∧ (atN kvs k = none → Q y (upd H a (NDO P w a (putN kvs k t y))))
theorem mt_sdefN (hu : X.A.in1.units + 8 < cLine) : MtR X "dict.setdefault" (rSdefN X.K X.prog X.w) := by
  intro pins s σ H x vs v us Q I rx rv h
  obtain ⟨t, a, k, kvs, y, rfl, rfl, nk, hd8, ha, hk, hl, q1, q2⟩ := h
  cases rx
  obtain ⟨u1, u2, rfl, r1, r2⟩ := vals2 rv
  cases r1
  obtain ⟨hd, hz, xs, np, dd⟩ := nd_dict I ha hk
  refine call_setdefault_heap (knd := nestedKind X.prog X.w) (hsz := by rw [← Paired.length np]; exact hz) hu ⟨nk_is I _ _ _ nk rfl, hd8⟩ hd dd (fun p hp => ?_) fun hn h' dd' hs => ?_
  · cases e : atN kvs k with
    | none => rw [np_none np e] at hp; cases hp
    | some z =>
      obtain ⟨p', e', r⟩ := np_some np e
      rw [e'] at hp
      cases hp
      exact ⟨z, H, I.tok _, r, q1 z e⟩
  · obtain ⟨o, es, ep, h1, h2, h3, h4, _, h5⟩ := dd'
    have e : atN kvs k = none := by
      cases e : atN kvs k with
      | none => rfl
      | some z => obtain ⟨p', e', _⟩ := np_some np e; rw [e'] at hn; cases hn
    refine ⟨y, _, I.write (e := a) (by rw [ha]; trivial) (.inl rfl) (fun b u hb hu => (hs.2 b hb).trans hu) ⟨o, h1⟩ (nd_new ⟨hd, ?_, _, np_put np r2, o, es, ep, h1, h2, h3, h4, h5⟩), r2, q2 e⟩
    have := putN_len kvs k t y
    omega
end
theorem seqT_putN {P : Program} {w : World} {K : PySem.W.Frag} {H : Hp} {a p : Addr} {kvs : NKV} {xs : List V} (o : HO) (h : SqT K H p xs) (ha : H a = some (NDO P w a kvs)) : SqT K (upd H a o) p xs := by
  rcases h with (h | ⟨u, h⟩) | h
  · exact .inl (.inl (by rw [upd_ne (fun e => by rw [e, ha] at h; cases h)]; exact h))
  · exact .inl (.inr ⟨u, by rw [upd_ne (fun e => by rw [e, ha] at h; cases h)]; exact h⟩)
  · exact .inr h
mutual
theorem nk_put {P : Program} {w : World} {K : PySem.W.Frag} {H : Hp} {a : Addr} {kvs : NKV} (o : HO) (ha : H a = some (NDO P w a kvs)) : ∀ (k : NestedKey) (x : V), NK K H x k → NK K (upd H a o) x k
  | .num i, x, h => by
    cases h with
    | int => exact .int i
    | bl b => exact .bl b
  | .text y, x, h => by cases h with | str => exact .str y
  | .none, x, h => by cases h
  | .tup ks, x, h => by
    cases h with
    | tup h hs => exact .tup (seqT_putN o h ha) (nks_put o ha ks _ hs)
theorem nks_put {P : Program} {w : World} {K : PySem.W.Frag} {H : Hp} {a : Addr} {kvs : NKV} (o : HO) (ha : H a = some (NDO P w a kvs)) : ∀ (ks : List NestedKey) (xs : List V), NKs K H xs ks → NKs K (upd H a o) xs ks
  | [], xs, h => by cases h; exact .nil
  | k :: ks, xs, h => by
    cases h with
    | cons h hs => exact .cons (nk_put o ha k _ h) (nks_put o ha ks _ hs)
end
theorem NKeys.write {P : Program} {w : World} {K : PySem.W.Frag} {H : Hp} {a : Addr} {kvs ls : NKV} (o : HO) (h : NKeys K H ls) (ha : H a = some (NDO P w a kvs)) : NKeys K (upd H a o) ls := fun p hp => ⟨nk_put o ha _ _ (h p hp).1, (h p hp).2⟩
theorem NKeys.put {K : PySem.W.Frag} {H : Hp} {kvs : NKV} {k : NestedKey} {t : Addr} {y : V} (h : NKeys K H kvs) (hk : NK K H (.ref t) k) (hd : k.depth ≤ 8) : NKeys K H (putN kvs k t y) := fun p hp => by
  unfold putN at hp
  split at hp
  · obtain ⟨q, hq, e⟩ := List.mem_map.mp hp
    have := h q hq
    split at e
    · subst e; exact this
    · subst e; exact this
  · rcases List.mem_append.mp hp with hp | hp
    · exact h p hp
    · rw [List.mem_singleton.mp hp]; exact ⟨hk, hd⟩
theorem NKeys.nil {K : PySem.W.Frag} {H : Hp} : NKeys K H [] := fun p hp => nomatch hp
theorem atN_nil (k : NestedKey) : atN [] k = none := rfl
theorem atN_cons (p : NestedKey × Addr × V) (kvs : NKV) (k : NestedKey) : atN (p :: kvs) k = if p.1 = k then some p.2.2 else atN kvs k := by
  unfold atN
  by_cases h : p.1 = k
  · rw [List.find?_cons_of_pos (by simpa using h), if_pos h]; rfl
  · rw [List.find?_cons_of_neg (by simpa using h), if_neg h]
theorem atN_app (kvs ls : NKV) (k : NestedKey) : atN (kvs ++ ls) k = (atN kvs k).or (atN ls k) := by
  induction kvs with
  | nil => rfl
  | cons p kvs ih =>
    rw [List.cons_append, atN_cons, atN_cons, ih]
    split <;> rfl
theorem atN_map (kvs : NKV) (k j : NestedKey) (y : V) : atN (kvs.map fun p => if p.1 = k then (p.1, p.2.1, y) else p) j = if j = k ∧ (atN kvs k).isSome = true then some y else atN kvs j := by
  induction kvs with
  | nil => simp [atN_nil]
  | cons p kvs ih =>
    rw [List.map_cons, atN_cons, atN_cons, atN_cons, ih]
    by_cases h1 : p.1 = k
    · rw [if_pos h1]
      by_cases h2 : j = k
      · subst h2
        rw [if_pos h1, if_pos ⟨rfl, by rw [if_pos h1]; rfl⟩]
      · have h3 : ¬ p.1 = j := fun e => h2 (e.symm.trans h1)
        rw [if_neg h3, if_neg (fun h => h2 h.1), if_neg (fun h => h2 h.1), if_neg h3]
    · rw [if_neg h1, if_neg h1]
      by_cases h3 : p.1 = j
      · have h2 : ¬ j = k := fun e => h1 (h3.trans e)
        rw [if_pos h3, if_neg (fun h => h2 h.1), if_pos h3]
      · rw [if_neg h3, if_neg h3]
theorem atN_put (kvs : NKV) (k j : NestedKey) (a : Addr) (y : V) : atN (putN kvs k a y) j = if j = k then some y else atN kvs j := by
  unfold putN
  cases e : atN kvs k with
  | some z =>
    rw [if_pos (show (some z).isSome = true from rfl), atN_map, e]
    by_cases h : j = k
    · rw [if_pos ⟨h, rfl⟩, if_pos h]
    · rw [if_neg (fun x => h x.1), if_neg h]
  | none =>
    rw [if_neg (show ¬ (none : Option V).isSome = true from Bool.false_ne_true), atN_app, atN_cons, atN_nil]
    by_cases h : j = k
    · subst h; rw [e, if_pos rfl]; simp
    · rw [if_neg (fun x => h x.symm), if_neg h, Option.or_none]
end LX
set_option maxHeartbeats 2000000
namespace LX
open PySem PySem.Spec PyProof.Rows L2 C8 SX
abbrev BKV := List (Bool × V)
def BP : BKV → List (Bool × Value) → Prop := Paired fun p q => p.1 = q.1 ∧ RelV p.2 q.2
def BDR (P : Program) (w : World) (h : Heap) (a : Addr) (kvs : BKV) : Prop := (a == sysModules) = false ∧ kvs.length ≤ sizeLine ∧ ∃ vs, BP kvs vs ∧ h.DictOf (PpSet.boolK P w) a vs
def BDO (P : Program) (w : World) (a : Addr) (kvs : BKV) : HO := .ext fun h => BDR P w h a kvs
def atB (kvs : BKV) (k : Bool) : Option V := (kvs.find? fun p => decide (p.1 = k)).map (·.2)
theorem bp_some {kvs : BKV} {vs : List (Bool × Value)} {k : Bool} {y : V} (h : BP kvs vs) (e : atB kvs k = some y) : ∃ v, valueAt vs k = some v ∧ RelV y v := by
  unfold BP at h
  induction h with
  | nil => cases e
  | @cons p q ps qs h t ih =>
    obtain ⟨h1, h3⟩ := h
    unfold atB valueAt at *
    by_cases hk : p.1 = k
    · rw [List.find?_cons_of_pos (by simpa using hk)] at e
      cases e
      exact ⟨q.2, by rw [List.find?_cons_of_pos (by rw [← h1]; simpa using hk)]; rfl, h3⟩
    · rw [List.find?_cons_of_neg (by simpa using hk)] at e
      obtain ⟨r, er, rr⟩ := ih e
      exact ⟨r, by rw [List.find?_cons_of_neg (by rw [← h1]; simpa using hk)]; exact er, rr⟩
theorem bp_none {kvs : BKV} {vs : List (Bool × Value)} {k : Bool} (h : BP kvs vs) (e : atB kvs k = none) : valueAt vs k = none := by
  unfold BP at h
  induction h with
  | nil => rfl
  | @cons p q ps qs h t ih =>
    obtain ⟨h1, h3⟩ := h
    unfold atB valueAt at *
    by_cases hk : p.1 = k
    · rw [List.find?_cons_of_pos (by simpa using hk)] at e
      cases e
    · rw [List.find?_cons_of_neg (by simpa using hk)] at e
      rw [List.find?_cons_of_neg (by rw [← h1]; simpa using hk)]
      exact ih e
theorem bp_app {kvs : BKV} {vs : List (Bool × Value)} {k : Bool} {y : V} {v : Value} (h : BP kvs vs) (r : RelV y v) : BP (kvs ++ [(k, y)]) (vs ++ [(k, v)]) := by
  unfold BP at h ⊢
  induction h with
  | nil => exact .cons ⟨rfl, r⟩ .nil
  | cons h t ih => exact .cons h ih
theorem stored_new {vs : List (Bool × Value)} {k : Bool} {v : Value} (h : valueAt vs k = none) : stored vs k v = vs ++ [(k, v)] := by
  unfold stored
  rw [if_neg]
  intro hc
  obtain ⟨p, hp, e⟩ := List.any_eq_true.mp hc
  unfold valueAt at h
  rw [Option.map_eq_none_iff, List.find?_eq_none] at h
  exact h p hp e
section
variable {X : Cx} {pins : List (Addr × Obj)} {σ : L2.St} {H : Hp} {s : Shared} {a : Addr} {kvs : BKV}
theorem bd_new {P : Program} {w : World} {h : Heap} (R : BDR P w h a kvs) : ObjOk P w H h a (BDO P w a kvs) := by
  obtain ⟨r1, r2, vs, r3, o, es, ep, h1, hr⟩ := id R
  exact ⟨R, ⟨o, h1⟩, fun g1 g2 ⟨q1, q2, ys, q3, u, es', ep', p1, pr⟩ kk => ⟨q1, q2, ys, q3, u, es', ep', kk _ p1, pr⟩⟩
theorem bd_get (I : Inv X pins σ H s) (ha : H a = some (BDO X.prog X.w a kvs)) : BDR X.prog X.w s.heap a kvs := (I.hok a _ ha).1
def tDNewB (P : Program) (w : World) : TE := fun σ H Q => ∀ p, H p = none → Q (.ref p) (upd H p (BDO P w p []))
theorem pe_dnewB {pos : Pos} : PE X (.Dict [] [] pos) (tDNewB X.prog X.w) := ⟨fun pins s σ H Q I h => by
  refine wpAny_Dict_empty ⟨.ref s.heap.objs.size, _, I.laid (a := s.heap.objs.size) (o := BDO X.prog X.w s.heap.objs.size []) (t' := s.toks) (fun _ _ q => Heap.get?_push_of_some _ q) (Nat.le_refl _) (bd_new ?_), rfl, h _ (I.hok.fresh (Nat.le_refl _))⟩
  obtain ⟨hd, _⟩ := nd_empty s I.big (P := X.prog) (w := X.w) (H := upd H s.heap.objs.size (.dT []))
  exact ⟨hd, Nat.zero_le _, [], .nil, Heap.DictOf.new s.heap⟩⟩
def rSdefB (P : Program) (w : World) : V → List V → Hp → VK → Prop := fun x vs H Q => ∃ (a : Addr) (k : Bool) (kvs : BKV) (y : V), x = .ref a ∧ vs = [.bl k, y] ∧ H a = some (BDO P w a kvs) ∧ kvs.length < sizeLine ∧
  (∀ z, atB kvs k = some z → Q z H) ∧ (atB kvs k = none → Q y (upd H a (BDO P w a (kvs ++ [(k, y)]))))
theorem mt_sdefB : MtR X "dict.setdefault" (rSdefB X.prog X.w) := by
  intro pins s σ H x vs v us Q I rx rv h
  obtain ⟨a, k, kvs, y, rfl, rfl, ha, hl, q1, q2⟩ := h
  cases rx
  obtain ⟨u1, u2, rfl, r1, r2⟩ := vals2 rv
  cases r1
  obtain ⟨hd, hz, ws, np, dd⟩ := bd_get I ha
  have hT : s.TypeIs (.ref a) "dict" := let ⟨o, _, _, ho, hc, _⟩ := dd; ⟨o, ho, hc.1⟩
  refine call_meetsIn F.slot_dict_setdefault hT F.entry_dict_setdefault (F.args_dict_setdefault_3 _ _ _) (kt_meets_setdefault (PpSet.boolK X.prog X.w) (k := k) a (PpSet.boolK_is _ _ k) hd u2) ⟨ws, dd, by rw [← Paired.length np]; exact hz, fun p hp => ?_, fun hn h' dd' hs => ?_⟩
  · cases e : atB kvs k with
    | none => rw [bp_none np e] at hp; cases hp
    | some z =>
      obtain ⟨p', e', r⟩ := bp_some np e
      rw [e'] at hp
      cases hp
      exact ⟨z, H, I.tok _, r, q1 z e⟩
  · have e : atB kvs k = none := by
      cases e : atB kvs k with
      | none => rfl
      | some z => obtain ⟨p', e', _⟩ := bp_some np e; rw [e'] at hn; cases hn
    rw [stored_new hn] at dd'
    obtain ⟨o, es, ep, h1, hr⟩ := id dd'
    exact ⟨y, _, I.write (e := a) (by rw [ha]; trivial) (.inl rfl) (fun b u hb hu => (hs.2 b hb).trans hu) ⟨o, h1⟩ (bd_new ⟨hd, by rw [List.length_append]; exact hl, _, bp_app np r2, dd'⟩), r2, q2 e⟩
theorem call_lenB : CallR X (.builtin "len") (fun xs H Q => ∃ (a : Addr) (kvs : BKV), xs = [.ref a] ∧ H a = some (BDO X.prog X.w a kvs) ∧ Q (.int (kvs.length : Nat)) H) := by
  intro pins s σ H xs us Q I r h
  obtain ⟨a, kvs, rfl, ha, q⟩ := h
  obtain ⟨u, rfl, rx⟩ := vals1 r
  obtain rfl : u = .ref a := rx
  obtain ⟨hd, hz, ys, np, dd⟩ := bd_get I ha
  have hl : kvs.length = ys.length := Paired.length np
  refine call_len_dict hd dd (by rw [← hl]; rw [sizeLine_eq] at hz; omega) ?_
  rw [← hl]
  exact ⟨.int ((kvs.length : Nat) : Int), H, I.tok _, ⟨_, rfl⟩, q⟩
def tDGetB (P : Program) (w : World) (td ty : TE) : TE := fun σ H Q => td σ H fun x H1 => ty σ H1 fun y H2 => ∃ (a : Addr) (k : Bool) (kvs : BKV) (z : V), x = .ref a ∧ y = .bl k ∧ H2 a = some (BDO P w a kvs) ∧ atB kvs k = some z ∧ Q z H2
theorem pe_dgetB {o i : Expr} {pos : Pos} {td ty : TE} (ho : PE X o td) (hi : PE X i ty) (hs : NoSl i) : PE X (.Subscript o i pos) (tDGetB X.prog X.w td ty) := by
  refine ⟨fun pins s σ H Q I h => ?_⟩
  refine subD_of PySem.F.slot_dict_getitem.lookup hs (thn (ho.run pins s σ H _ I h) fun u s1 ⟨x, H1, I1, rx, q1⟩ => thn (hi.run pins s1 σ H1 _ I1 q1) fun iv s2 ⟨y, H2, I2, ry, a, k, kvs, z, ex, ey, ha, e, q2⟩ => ?_)
  subst ex ey
  obtain rfl : u = Value.ref a := rx
  obtain rfl : iv = Value.bool k := ry
  obtain ⟨hd, hz, ws, np, dd⟩ := bd_get I2 ha
  obtain ⟨p, ep, rp⟩ := bp_some np e
  have hT : s2.TypeIs (.ref a) "dict" := let ⟨o, _, _, ho, hc, _⟩ := dd; ⟨o, ho, hc.1⟩
  exact ⟨hT, wpAny_getItem_of (PpSet.boolK_is X.prog X.w k) dd.mapOf ep ⟨z, H2, I2.tok _, rp, q2⟩⟩
end
end LX
set_option maxHeartbeats 2000000
namespace LX
open PySem PySem.Spec PyProof.Rows L2 C8 SX
theorem hu8_of {X : Cx} {j : Nat} (hr : Room j X.A) : X.A.in1.units + 8 < cLine := by
  have := hr.units
  show X.A.units + 1 + 8 < cLine
  omega
section
variable {X : Cx} {o e f : Expr} {apos cpos : Pos} {td ty tx : TE}
def tSdefN (K : PySem.W.Frag) (P : Program) (w : World) (td ty tx : TE) : TE := fun σ H Q => td σ H fun x H1 => ∃ (a : Addr) (ls : NKV), x = .ref a ∧ H1 a = some (NDO P w a ls) ∧ ty σ H1 fun y H2 => tx σ H2 fun z H3 => rSdefN K P w (.ref a) [y, z] H3 Q
theorem pe_sdefN (hu : X.A.in1.units + 8 < cLine) (ho : PE X o td) (he : PE X e ty) (hf : PE X f tx) (m : M2 X o "setdefault" apos e f cpos) : PE X (.Call (.Attribute o "setdefault" apos) [e, f] [] cpos) (tSdefN X.K X.prog X.w td ty tx) := by
  refine ⟨fun pins s σ H Q I h => ?_⟩
  refine wpAny_Call_method m.base m.few m.line PySem.F.plainAttrs_dict PySem.F.slot_dict_setdefault PySem.F.type_dict_setdefault (thn (ho.run pins s σ H _ I h) fun u s1 ⟨x, H1, I1, rx, a, ls, ex, ha, q1⟩ => ?_)
  subst ex
  obtain rfl : u = Value.ref a := rx
  obtain ⟨_, _, xs, _, ob, es, ep, h1, h2, _⟩ := (I1.hok a _ ha).1
  refine ⟨⟨ob, h1, h2.1⟩, (fun b eb => by cases eb; exact ⟨ob, h1, h2.2.1⟩), ?_⟩
  rw [m.trees]
  refine Calls.callWith_builtin rfl (Calls.evalArgs_plain (Calls.spliced_cons (thn (he.run pins s1 σ H1 _ I1 q1) fun iv s2 ⟨y, H2, I2, ry, q2⟩ =>
    Calls.spliced_cons (thn (hf.run pins s2 σ H2 _ I2 q2) fun fv s3 ⟨z, H3, I3, rz, g⟩ => Calls.spliced_nil ?_))))
  exact mt_sdefN hu pins s3 σ H3 (.ref a) [y, z] (.ref a) [iv, fv] Q I3 rfl (.cons ry (.cons rz .nil)) g
def tSdefB (P : Program) (w : World) (td ty tx : TE) : TE := fun σ H Q => td σ H fun x H1 => ∃ (a : Addr) (ls : BKV), x = .ref a ∧ H1 a = some (BDO P w a ls) ∧ ty σ H1 fun y H2 => tx σ H2 fun z H3 => rSdefB P w (.ref a) [y, z] H3 Q
theorem pe_sdefB (ho : PE X o td) (he : PE X e ty) (hf : PE X f tx) (m : M2 X o "setdefault" apos e f cpos) : PE X (.Call (.Attribute o "setdefault" apos) [e, f] [] cpos) (tSdefB X.prog X.w td ty tx) := by
  refine ⟨fun pins s σ H Q I h => ?_⟩
  refine wpAny_Call_method m.base m.few m.line PySem.F.plainAttrs_dict PySem.F.slot_dict_setdefault PySem.F.type_dict_setdefault (thn (ho.run pins s σ H _ I h) fun u s1 ⟨x, H1, I1, rx, a, ls, ex, ha, q1⟩ => ?_)
  subst ex
  obtain rfl : u = Value.ref a := rx
  obtain ⟨_, _, xs, _, ob, es, ep, h1, h2, _⟩ := (I1.hok a _ ha).1
  refine ⟨⟨ob, h1, h2.1⟩, (fun b eb => by cases eb; exact ⟨ob, h1, h2.2.1⟩), ?_⟩
  rw [m.trees]
  refine Calls.callWith_builtin rfl (Calls.evalArgs_plain (Calls.spliced_cons (thn (he.run pins s1 σ H1 _ I1 q1) fun iv s2 ⟨y, H2, I2, ry, q2⟩ =>
    Calls.spliced_cons (thn (hf.run pins s2 σ H2 _ I2 q2) fun fv s3 ⟨z, H3, I3, rz, g⟩ => Calls.spliced_nil ?_))))
  exact mt_sdefB pins s3 σ H3 (.ref a) [y, z] (.ref a) [iv, fv] Q I3 rfl (.cons ry (.cons rz .nil)) g
theorem pe_dgetBP {i : Expr} {pos : Pos} (P : Program) (w : World) (ho : PE X o td) (hi : PE X i ty) (hs : NoSl i) (hP : X.prog = P := by rfl) (hw : X.w = w := by rfl) : PE X (.Subscript o i pos) (tDGetB P w td ty) := by
  subst hP hw
  exact pe_dgetB ho hi hs
theorem pe_dgetNP {i : Expr} {pos : Pos} (K : PySem.W.Frag) (P : Program) (w : World) (hu : X.A.in1.units + 8 < cLine) (ho : PE X o td) (hi : PE X i ty) (hs : NoSl i) (hK : X.K = K := by rfl) (hP : X.prog = P := by rfl) (hw : X.w = w := by rfl) : PE X (.Subscript o i pos) (tDGetN K P w td ty) := by
  subst hK hP hw
  exact pe_dgetN hu ho hi hs
end
end LX
set_option maxHeartbeats 1000000
namespace Toy
open PySem L2 C8 SX LX
section
variable {P : Program} {w : World} {K : PySem.W.Frag} {mg : Str → Option Value} {base : Heap}
abbrev s_numbered : Stmt := top 2
abbrev n_numbered : List Str := ["things", "numbers", "thing"]
theorem sc_numbered : FnScope n_numbered ["things"] (fnScope s_numbered) := fnScope_by (by decide +kernel)
def kvB (fs : List Bool) : BKV := (List.range fs.length).map fun j => (fs.getD j false, .int (j : Nat))
theorem kvB_len (fs : List Bool) : (kvB fs).length = fs.length := by unfold kvB; rw [List.length_map, List.length_range]
theorem kvB_snoc (fs : List Bool) (b : Bool) : kvB (fs ++ [b]) = kvB fs ++ [(b, .int (fs.length : Nat))] := by
  unfold kvB
  rw [List.length_append, List.length_singleton, List.range_succ, List.map_append, List.map_cons, List.map_nil]
  congr 1
  · refine List.map_congr_left fun j hj => ?_
    have := List.mem_range.mp hj
    rw [List.getD_eq_getElem?_getD, List.getElem?_append_left this, ← List.getD_eq_getElem?_getD]
  · rw [List.getD_eq_getElem?_getD, List.getElem?_append_right (Nat.le_refl _)]; simp
theorem atB_app (kvs ls : BKV) (k : Bool) : atB (kvs ++ ls) k = (atB kvs k).or (atB ls k) := by
  unfold atB
  rw [List.find?_append]
  cases List.find? (fun p => decide (p.1 = k)) kvs <;> rfl
theorem atB_one (b k : Bool) (y : V) : atB [(b, y)] k = if b = k then some y else none := by
  unfold atB
  by_cases h : b = k
  · rw [List.find?_cons_of_pos (by simpa using h), if_pos h]; rfl
  · rw [List.find?_cons_of_neg (by simpa using h), if_neg h]; rfl
theorem snoc_ind {α : Type} {p : List α → Prop} (h0 : p []) (h1 : ∀ xs x, p xs → p (xs ++ [x])) (l : List α) : p l := by
  have : ∀ n (l : List α), l.length = n → p l := by
    intro n
    induction n with
    | zero => intro l e; rw [List.length_eq_zero_iff.mp e]; exact h0
    | succ n ih =>
      intro l e
      rcases List.eq_nil_or_concat l with rfl | ⟨xs, x, rfl⟩
      · simp at e
      · rw [List.concat_eq_append] at e ⊢
        exact h1 xs x (ih xs (by simpa using e))
  exact this _ l rfl
theorem atB_kv (fs : List Bool) (nd : fs.Nodup) (k : Bool) : atB (kvB fs) k = if k ∈ fs then some (.int (fs.idxOf k : Nat)) else none := by
  revert nd
  refine snoc_ind (p := fun fs => fs.Nodup → atB (kvB fs) k = if k ∈ fs then some (.int (fs.idxOf k : Nat)) else none) (fun _ => by rfl) (fun fs b ih nd => ?_) fs
  rw [List.nodup_append] at nd
  rw [kvB_snoc, atB_app, ih nd.1, atB_one]
  by_cases h : k ∈ fs
  · rw [if_pos h, if_pos (List.mem_append_left _ h), List.idxOf_append, if_pos h]; rfl
  · rw [if_neg h]
    by_cases e : b = k
    · subst e
      rw [if_pos rfl, if_pos (List.mem_append_right _ List.mem_cons_self), List.idxOf_append, if_neg h]
      simp
    · rw [if_neg e, if_neg (fun hm => by rcases List.mem_append.mp hm with z | z; exact h z; exact e (List.mem_singleton.mp z).symm)]; rfl
def spNumB (K : PySem.W.Frag) : Sp := fun vs H Q _ => ∃ (p : Addr) (bs : List Bool), vs = [.ref p] ∧ SqL K H p (bs.map V.bl) ∧ bs.length ≤ 900 ∧
  ∀ (D : Addr) (H' : Hp), Same H H' → H D = none → H' D = some (.lst ((UW.num bs).map fun (k : Nat) => V.int (k : Nat))) → Q (.ref D) H'
theorem bl_get {bs : List Bool} {i : Nat} {x : V} (h : (bs.map V.bl)[i]? = some x) : ∃ b, bs[i]? = some b ∧ x = .bl b := by
  rw [List.getElem?_map] at h
  cases e : bs[i]? with
  | none => rw [e] at h; cases h
  | some b => rw [e] at h; exact ⟨b, rfl, (Option.some.inj h).symm⟩
theorem firsts_take {bs : List Bool} {i : Nat} {b : Bool} (h : bs[i]? = some b) : UW.firsts (bs.take (i + 1)) = UW.ins (UW.firsts (bs.take i)) b := by
  rw [List.take_add_one, h]
  exact UW.firsts_snoc _ _
theorem firsts_len (bs : List Bool) : (UW.firsts bs).length ≤ 2 := UW.sub_len [true, false] _ (UW.firsts_nodup bs) fun x _ => by cases x <;> simp
theorem ok_numB (T : BT mg) {f : Addr} {fd : FuncData} (F : Def K mg "numbered" s_numbered f fd) (b : Binds K fd ["things"] []) : FnOk P w K mg base C8.CX0 1 f fd ["things"] (spNumB K) := by
  refine fn0 F.fn sc_numbered (fun vs H Q E h => ?_) (fun cdv A outer s H vs Q E hr h => ?_)
  · obtain ⟨p, bs, rfl, _⟩ := h; rfl
  · obtain ⟨p, bs, rfl, hp, hl, k⟩ := h
    refine ⟨_, (pss_cons (ps_set (i := 1) sc_numbered.nd rfl (.inr rfl) pe_dnewB)
      (pss_cons (ps_for PassesOwn.never rfl (pi_list (pv 0)) (pg_name (i := 2) sc_numbered.nd rfl (.inl rfl)) 
        (pss_one (ps_expr (pe_sdefB (pv 1) (pv 2) (pe_callB call_lenB (by rfl) T.m_len PySem.boot_len (pa_cons (pv 1) pa_nil)) ⟨by rfl, by rfl, by rfl, by rfl⟩))
        ))
      (pss_one (ps_ret (pe_lc (own := [("thing", 2)]) rfl sc_numbered.nd (pi_list (pv 0)) (blkOk_by (N := n_numbered) (sc := fnScope s_numbered) (by decide +kernel)) (fun _ _ _ _ _ => (pg_name (i := 2) sc_numbered.nd rfl (.inl rfl))) (fun _ _ _ _ _ => pts_nil) (fun _ _ _ _ _ => (pe_dgetBP P w (pv 1) (pv 2) (fun _ _ => rfl)))))
      ))), ?_⟩
    refine fun d hd => ?_
    have s1 : Same H (upd H d (BDO P w d [])) := sm_new hd
    refine ⟨_, rfl, p, rfl, ⟨_, s1.seq hp⟩, for_it (walk_list (K := K) (a := p) (xs := bs.map V.bl)) (fun i σ H' => ∃ s2 : Option V, σ = [some (.ref p), some (.ref d), s2] ∧ Same H H' ∧ H' d = some (BDO P w d (kvB (UW.firsts (bs.take i)))))
      ⟨none, rfl, s1, upd_same⟩ (fun _ _ _ _ ⟨_, _, e, _⟩ => e.seq hp) ?_ ?_⟩
    · rintro i x σ H1 H1' hi ⟨s2, rfl, e1, hd1⟩ ⟨rfl, ex⟩
      obtain ⟨bb, hb, rfl⟩ := bl_get ex
      have hnd := UW.firsts_nodup (bs.take i)
      have hat := atB_kv _ hnd bb
      refine ⟨_, rfl, d, _, rfl, hd1, _, rfl, _, rfl, d, _, rfl, hd1, ?_⟩
      refine ⟨d, bb, _, _, rfl, rfl, hd1, ?_, fun z ez => ?_, fun ez => ?_⟩
      · rw [kvB_len]; exact small1000 (by have := firsts_len (bs.take i); omega)
      · rw [hat] at ez
        by_cases hm : bb ∈ UW.firsts (bs.take i)
        · refine ⟨_, rfl, e1, ?_⟩
          rw [firsts_take hb]; unfold UW.ins; rw [if_pos hm]; exact hd1
        · rw [if_neg hm] at ez; cases ez
      · rw [hat] at ez
        by_cases hm : bb ∈ UW.firsts (bs.take i)
        · rw [if_pos hm] at ez; cases ez
        · refine ⟨_, rfl, (fun c o e => by rw [upd_ne (fun z => by rw [z, hd] at e; cases e)]; exact e1 _ _ e), ?_⟩
          rw [upd_same, firsts_take hb]; unfold UW.ins; rw [if_neg hm, kvB_snoc, kvB_len]; rfl
    · rintro σ H1 ⟨s2, rfl, e1, hd1⟩
      have ht : bs.take (bs.map V.bl).length = bs := by rw [List.length_map, List.take_length]
      rw [ht] at hd1
      refine ⟨_, rfl, p, rfl, ⟨_, e1.seq hp⟩, fun D hD => ?_⟩
      refine lc_keep keep_same (walk_list (K := K) (a := p) (xs := bs.map V.bl)) hD (by rw [List.length_map]; exact small1000 (by omega)) (fun j y => ∀ c, bs[j]? = some c → y = .int ((UW.firsts bs).idxOf c : Nat)) (fun H r => (e1.trans r).seq hp) (fun i x H2 H3 R hi r hy hR => ?_) (fun ys H2 hly hg r hDs => ?_)
      · obtain ⟨rfl, ex⟩ := hy
        obtain ⟨bb, hb, rfl⟩ := bl_get ex
        refine ⟨rfl, ?_⟩
        refine ⟨_, rfl, _, rfl, d, bb, _, .int ((UW.firsts bs).idxOf bb : Nat), rfl, rfl, r _ _ hd1, ?_, hR _ _ (Same.refl _) fun c hc => by rw [hb] at hc; cases hc; rfl⟩
        rw [atB_kv _ (UW.firsts_nodup bs), if_pos (UW.firsts_mem.mpr (List.mem_of_getElem? hb))]
      · have ey : ys = (UW.num bs).map fun (k : Nat) => V.int (k : Nat) := by
          unfold UW.num
          rw [List.map_map]
          exact list_map (by rw [hly, List.length_map]) fun j y c e1 e2 => hg j y e1 c e2
        subst ey
        exact k D H2 (e1.trans r) (e1.free hD) hDs
end
end Toy
set_option maxHeartbeats 1000000
namespace Toy
open PySem L2 C8 SX LX
section
variable {P : Program} {w : World} {K : PySem.W.Frag} {mg : Str → Option Value} {base : Heap}
def kvN (fs : List (NestedKey × Addr)) : NKV := fs.zipIdx.map fun p => (p.1.1, p.1.2, .int (p.2 : Nat))
theorem kvN_len (fs : List (NestedKey × Addr)) : (kvN fs).length = fs.length := by unfold kvN; rw [List.length_map, List.length_zipIdx]
theorem kvN_snoc (fs : List (NestedKey × Addr)) (q : NestedKey × Addr) : kvN (fs ++ [q]) = kvN fs ++ [(q.1, q.2, .int (fs.length : Nat))] := by
  unfold kvN
  rw [List.zipIdx_append, List.map_append]
  simp
theorem atN_kv (fs : List (NestedKey × Addr)) (nd : (fs.map (·.1)).Nodup) (k : NestedKey) : atN (kvN fs) k = if k ∈ fs.map (·.1) then some (.int ((fs.map (·.1)).idxOf k : Nat)) else none := by
  revert nd
  refine snoc_ind (p := fun fs => (fs.map (·.1)).Nodup → atN (kvN fs) k = if k ∈ fs.map (·.1) then some (.int ((fs.map (·.1)).idxOf k : Nat)) else none) (fun _ => by rfl) (fun fs q ih nd => ?_) fs
  rw [List.map_append, List.map_cons, List.map_nil] at nd ⊢
  rw [List.nodup_append] at nd
  rw [kvN_snoc, atN_app, ih nd.1, atN_cons, atN_nil]
  by_cases h : k ∈ fs.map (·.1)
  · rw [if_pos h, if_pos (List.mem_append_left _ h), List.idxOf_append, if_pos h]; rfl
  · rw [if_neg h]
    by_cases e : q.1 = k
    · rw [if_pos e, if_pos (List.mem_append_right _ (by rw [e]; exact List.mem_cons_self)), List.idxOf_append, if_neg h]
      simp [e]
    · rw [if_neg e, if_neg (fun hm => by rcases List.mem_append.mp hm with z | z; exact h z; exact e (List.mem_singleton.mp z).symm)]; rfl
theorem putN_new {kvs : NKV} {k : NestedKey} {a : Addr} {y : V} (h : atN kvs k = none) : putN kvs k a y = kvs ++ [(k, a, y)] := by
  unfold putN; rw [h]; rfl
theorem mem_kvN {fs : List (NestedKey × Addr)} {p : NestedKey × Addr × V} (h : p ∈ kvN fs) : (p.1, p.2.1) ∈ fs := by
  obtain ⟨q, hq, rfl⟩ := List.mem_map.mp h
  exact (List.mem_zipIdx' hq).2 ▸ List.getElem_mem _
def spNumN (K : PySem.W.Frag) : Sp := fun vs H Q _ => ∃ (p : Addr) (xs : List (NestedKey × Addr)), vs = [.ref p] ∧ SqL K H p (xs.map fun q => .ref q.2) ∧ xs.length ≤ 900 ∧ (∀ q ∈ xs, NK K H (.ref q.2) q.1 ∧ q.1.depth ≤ 8) ∧
  ∀ (D : Addr) (H' : Hp), Same H H' → H D = none → H' D = some (.lst ((UW.num (xs.map (·.1))).map fun (k : Nat) => V.int (k : Nat))) → Q (.ref D) H'
theorem ref_get {xs : List (NestedKey × Addr)} {i : Nat} {x : V} (h : (xs.map fun q => V.ref q.2)[i]? = some x) : ∃ q, xs[i]? = some q ∧ x = .ref q.2 := by
  rw [List.getElem?_map] at h
  cases e : xs[i]? with
  | none => rw [e] at h; cases h
  | some q => rw [e] at h; exact ⟨q, rfl, (Option.some.inj h).symm⟩
theorem ok_numN (T : BT mg) {f : Addr} {fd : FuncData} (F : Def K mg "numbered" s_numbered f fd) (b : Binds K fd ["things"] []) : FnOk P w K mg base C8.CX0 1 f fd ["things"] (spNumN K) := by
  refine fn0 F.fn sc_numbered (fun vs H Q E h => ?_) (fun cdv A outer s H vs Q E hr h => ?_)
  · obtain ⟨p, xs, rfl, _⟩ := h; rfl
  · obtain ⟨p, xs, rfl, hp, hl, hk, k⟩ := h
    refine ⟨_, (pss_cons (ps_set (i := 1) sc_numbered.nd rfl (.inr rfl) pe_dnewN)
      (pss_cons (ps_for PassesOwn.never rfl (pi_list (pv 0)) (pg_name (i := 2) sc_numbered.nd rfl (.inl rfl)) 
        (pss_one (ps_expr (pe_sdefN (hu8_of hr) (pv 1) (pv 2) (pe_callB call_lenN (by rfl) T.m_len PySem.boot_len (pa_cons (pv 1) pa_nil)) ⟨by rfl, by rfl, by rfl, by rfl⟩))
        ))
      (pss_one (ps_ret (pe_lc (own := [("thing", 2)]) rfl sc_numbered.nd (pi_list (pv 0)) (blkOk_by (N := n_numbered) (sc := fnScope s_numbered) (by decide +kernel)) (fun _ _ _ _ _ => (pg_name (i := 2) sc_numbered.nd rfl (.inl rfl))) (fun _ _ _ _ _ => pts_nil) (fun _ _ _ _ _ => (pe_dgetNP K P w (hu8_of hr) (pv 1) (pv 2) (fun _ _ => rfl)))))
      ))), ?_⟩
    refine fun d hd => ?_
    have s1 : Same H (upd H d (NDO P w d [])) := sm_new hd
    have keys : ∀ (fs : List (NestedKey × Addr)) (H' : Hp), (∀ q ∈ fs, q ∈ xs) → Same H H' → NKeys K H' (kvN fs) := fun fs H' hf e r hr => by
      have := hk _ (hf _ (mem_kvN hr))
      exact ⟨nk_same e _ _ this.1, this.2⟩
    refine ⟨_, rfl, p, rfl, ⟨_, s1.seq hp⟩, for_it (walk_list (K := K) (a := p) (xs := xs.map fun q => V.ref q.2)) (fun i σ H' => ∃ (s2 : Option V) (fs : List (NestedKey × Addr)), σ = [some (.ref p), some (.ref d), s2] ∧ Same H H' ∧ H' d = some (NDO P w d (kvN fs)) ∧ fs.map (·.1) = UW.firsts ((xs.take i).map (·.1)) ∧ (∀ q ∈ fs, q ∈ xs) ∧ fs.length ≤ i)
      ⟨none, [], rfl, s1, upd_same, rfl, (fun q h => nomatch h), Nat.le_refl _⟩ (fun _ _ _ _ ⟨_, _, _, e, _⟩ => e.seq hp) ?_ ?_⟩
    · rintro i x σ H1 H1' hi ⟨s2, fs, rfl, e1, hd1, hfs, hsub, hfl⟩ ⟨rfl, ex⟩
      obtain ⟨q, hq, rfl⟩ := ref_get ex
      have hqm := List.mem_of_getElem? hq
      have hil := (List.getElem?_eq_some_iff.mp hq).1
      have hat := atN_kv fs (by rw [hfs]; exact UW.firsts_nodup _) q.1
      have hstep : UW.firsts ((xs.take (i + 1)).map (·.1)) = UW.ins (UW.firsts ((xs.take i).map (·.1))) q.1 := by
        rw [List.take_add_one, hq, List.map_append]
        exact UW.firsts_snoc _ _
      have hks := keys fs _ hsub e1
      refine ⟨_, rfl, d, _, rfl, hd1, _, rfl, _, rfl, d, _, rfl, hd1, hks, ?_⟩
      refine ⟨q.2, d, q.1, _, _, rfl, rfl, nk_same e1 _ _ (hk q hqm).1, (hk q hqm).2, hd1, hks, ?_, fun z ez => ?_, fun ez => ?_⟩
      · rw [kvN_len]; exact small1000 (by omega)
      · rw [hat] at ez
        by_cases hm : q.1 ∈ fs.map (·.1)
        · refine ⟨_, fs, rfl, e1, hd1, ?_, hsub, by omega⟩
          rw [hstep]; unfold UW.ins; rw [← hfs, if_pos hm]
        · rw [if_neg hm] at ez; cases ez
      · have ez' := ez
        rw [hat] at ez
        by_cases hm : q.1 ∈ fs.map (·.1)
        · rw [if_pos hm] at ez; cases ez
        · refine ⟨_, fs ++ [q], rfl, (fun c o e => by rw [upd_ne (fun z => by rw [z, hd] at e; cases e)]; exact e1 _ _ e), ?_, ?_, fun r hr => ?_, by rw [List.length_append]; simp; omega⟩
          · rw [upd_same, putN_new ez', kvN_snoc, kvN_len]; rfl
          · rw [hstep]; unfold UW.ins; rw [← hfs, if_neg hm, List.map_append]; rfl
          · rcases List.mem_append.mp hr with z | z
            · exact hsub r z
            · rw [List.mem_singleton.mp z]; exact hqm
    · rintro σ H1 ⟨s2, fs, rfl, e1, hd1, hfs, hsub, hfl⟩
      have ht : xs.take (xs.map fun q => V.ref q.2).length = xs := by rw [List.length_map, List.take_length]
      rw [ht] at hfs
      refine ⟨_, rfl, p, rfl, ⟨_, e1.seq hp⟩, fun D hD => ?_⟩
      refine lc_keep keep_same (walk_list (K := K) (a := p) (xs := xs.map fun q => V.ref q.2)) hD (by rw [List.length_map]; exact small1000 (by omega)) (fun j y => ∀ c, (xs.map (·.1))[j]? = some c → y = .int ((UW.firsts (xs.map (·.1))).idxOf c : Nat)) (fun H r => (e1.trans r).seq hp) (fun i x H2 H3 R hi r hy hR => ?_) (fun ys H2 hly hg r hDs => ?_)
      · obtain ⟨rfl, ex⟩ := hy
        obtain ⟨q, hq, rfl⟩ := ref_get ex
        have hqm := List.mem_of_getElem? hq
        refine ⟨rfl, ?_⟩
        refine ⟨_, rfl, _, rfl, q.2, d, q.1, _, .int ((UW.firsts (xs.map (·.1))).idxOf q.1 : Nat), rfl, rfl, nk_same (e1.trans r) _ _ (hk q hqm).1, (hk q hqm).2, r _ _ hd1, keys fs _ hsub (e1.trans r), ?_, hR _ _ (Same.refl _) fun c hc => by rw [List.getElem?_map, hq] at hc; cases hc; rfl⟩
        rw [atN_kv fs (by rw [hfs]; exact UW.firsts_nodup _), hfs, if_pos (UW.firsts_mem.mpr (List.mem_map.mpr ⟨q, hqm, rfl⟩))]
      · have ey : ys = (UW.num (xs.map (·.1))).map fun (k : Nat) => V.int (k : Nat) := by
          unfold UW.num
          rw [List.map_map]
          exact list_map (by rw [hly, List.length_map, List.length_map]) fun j y c e1 e2 => hg j y e1 c e2
        subst ey
        exact k D H2 (e1.trans r) (e1.free hD) hDs
end
end Toy
set_option maxHeartbeats 1000000
namespace UW
section
variable {α β : Type} [DecidableEq α] [DecidableEq β]
theorem sn_ind {p : List α → Prop} (h0 : p []) (h1 : ∀ xs x, p xs → p (xs ++ [x])) (l : List α) : p l := by
  have : ∀ n (l : List α), l.length = n → p l := by
    intro n
    induction n with
    | zero => intro l e; rw [List.length_eq_zero_iff.mp e]; exact h0
    | succ n ih =>
      intro l e
      rcases List.eq_nil_or_concat l with rfl | ⟨xs, x, rfl⟩
      · simp at e
      · rw [List.concat_eq_append] at e ⊢
        exact h1 xs x (ih xs (by simpa using e))
  exact this _ l rfl
theorem firsts_map {f : α → β} (xs : List α) (hf : ∀ x ∈ xs, ∀ y ∈ xs, f x = f y → x = y) : firsts (xs.map f) = (firsts xs).map f := by
  revert hf
  refine sn_ind (p := fun xs => (∀ x ∈ xs, ∀ y ∈ xs, f x = f y → x = y) → firsts (xs.map f) = (firsts xs).map f) (fun _ => rfl) (fun xs x ih hf => ?_) xs
  have ih := ih fun a ha b hb => hf a (List.mem_append_left _ ha) b (List.mem_append_left _ hb)
  rw [List.map_append, List.map_cons, List.map_nil, firsts_snoc, firsts_snoc, ih]
  unfold ins
  by_cases h : x ∈ firsts xs
  · rw [if_pos h, if_pos (List.mem_map.mpr ⟨x, h, rfl⟩)]
  · rw [if_neg h, if_neg fun hm => ?_, List.map_append]; rfl
    obtain ⟨y, hy, e⟩ := List.mem_map.mp hm
    have := hf y (List.mem_append_left _ (firsts_mem.mp hy)) x (List.mem_append_right _ List.mem_cons_self) e
    exact h (this ▸ hy)
theorem map_idx {l : List α} (nd : l.Nodup) : l.map (fun x => l.idxOf x) = List.range l.length := by
  refine List.ext_getElem? fun i => ?_
  rw [List.getElem?_map]
  rcases Nat.lt_or_ge i l.length with h | h
  · rw [List.getElem?_eq_getElem h, List.getElem?_range h]
    show some (l.idxOf l[i]) = some i
    rw [nd.idxOf_getElem i h]
  · rw [List.getElem?_eq_none h, List.getElem?_eq_none (by rw [List.length_range]; exact h)]; rfl
theorem firsts_num (xs : List α) : firsts (num xs) = List.range (firsts xs).length := by
  unfold num
  rw [firsts_map xs fun x hx y _ e => idx_inj (firsts_mem.mpr hx) e, map_idx (firsts_nodup xs)]
theorem idx_range {n k : Nat} (h : k < n) : (List.range n).idxOf k = k := by
  have := (List.nodup_range (n := n)).idxOf_getElem k (by rw [List.length_range]; exact h)
  rwa [List.getElem_range] at this
theorem num_num (xs : List α) : num (num xs) = num xs := by
  have key : ∀ ys : List Nat, firsts ys = List.range (firsts xs).length → (∀ k ∈ ys, k < (firsts xs).length) → num ys = ys := fun ys e hlt => by
    unfold num
    rw [e]
    conv => rhs; rw [← List.map_id ys]
    exact List.map_congr_left fun k hk => idx_range (hlt k hk)
  exact key _ (firsts_num xs) fun k hk => num_lt hk
end
section
variable {flag : Nat → Bool} {lead : Nat → Nat → Nat} {m n : Nat}
structure Kn (flag : Nat → Bool) (lead : Nat → Nat → Nat) (m n k : Nat) (g : List Nat) : Prop where
  len : g.length = n
  can : num g = g
  rel : ∀ i j, i < n → j < n → (g.getD i 0 = g.getD j 0 ↔ Eb flag lead m k i j = true)
theorem getD_some {g : List Nat} {i x : Nat} (h : g[i]? = some x) : g.getD i 0 = x := by rw [List.getD_eq_getElem?_getD, h]; rfl
theorem get_getD {g : List Nat} {i : Nat} (h : i < g.length) : g[i]? = some (g.getD i 0) := by rw [List.getD_eq_getElem?_getD, List.getElem?_eq_getElem h]; rfl
theorem num_get {α : Type} [DecidableEq α] {xs : List α} {i j : Nat} {x y : α} (hi : xs[i]? = some x) (hj : xs[j]? = some y) : (num xs).getD i 0 = (num xs).getD j 0 ↔ x = y := by
  have h1 := (List.getElem?_eq_some_iff.mp hi).1
  have h2 := (List.getElem?_eq_some_iff.mp hj).1
  rw [← num_eq hi hj, get_getD (by rw [num_len]; exact h1), get_getD (by rw [num_len]; exact h2), Option.some.injEq]
theorem kn_zero {bs : List Bool} (hn : bs.length = n) (hb : ∀ i, i < n → bs[i]? = some (flag i)) : Kn flag lead m n 0 (num bs) := by
  refine ⟨by rw [num_len, hn], num_num _, fun i j hi hj => ?_⟩
  rw [num_get (hb i hi) (hb j hj)]
  exact (beq_iff_eq (a := flag i) (b := flag j)).symm
theorem kn_next {α : Type} [DecidableEq α] {k : Nat} {g : List Nat} (h : Kn flag lead m n k g) (hl : ∀ i c, i < n → c < m → lead i c < n) {xs : List α} (hn : xs.length = n) {key : Nat × List Nat → α} (hk : ∀ a b, key a = key b → a = b)
    (hx : ∀ i, i < n → xs[i]? = some (key (g.getD i 0, (List.range m).map fun c => g.getD (lead i c) 0))) : Kn flag lead m n (k + 1) (num xs) := by
  refine ⟨by rw [num_len, hn], num_num _, fun i j hi hj => ?_⟩
  rw [num_get (hx i hi) (hx j hj), ← next_eq h.len hl h.rel i j hi hj]
  exact ⟨hk _ _, fun e => by rw [e]⟩
theorem Kn.reps {k : Nat} {g : List Nat} (h : Kn flag lead m n k g) : (firsts g).length = (reps flag lead m n k).length :=
  firsts_reps h.len fun i j x y hi hj => by
    rw [← getD_some hi, ← getD_some hj]
    exact h.rel i j (by rw [← h.len]; exact (List.getElem?_eq_some_iff.mp hi).1) (by rw [← h.len]; exact (List.getElem?_eq_some_iff.mp hj).1)
theorem can_range {g : List Nat} (h : num g = g) : firsts g = List.range (firsts g).length := by
  have := firsts_num g
  rw [h] at this
  exact this
theorem can_max {g : List Nat} (h : num g = g) {x : Int} (hx : x ∈ g.map fun (k : Nat) => (k : Int)) (hm : ∀ y ∈ g.map fun (k : Nat) => (k : Int), y ≤ x) : x = ((firsts g).length : Int) - 1 := by
  obtain ⟨a, ha, rfl⟩ := List.mem_map.mp hx
  have h1 : a ∈ firsts g := firsts_mem.mpr ha
  have hr := can_range h
  rw [hr, List.mem_range] at h1
  have h2 : (firsts g).length - 1 ∈ firsts g := by rw [hr, List.mem_range]; rw [List.length_range]; omega
  have := hm _ (List.mem_map.mpr ⟨_, firsts_mem.mp h2, rfl⟩)
  omega
theorem Kn.max {k : Nat} {g : List Nat} (h : Kn flag lead m n k g) {x : Int} (hx : x ∈ g.map fun (k : Nat) => (k : Int)) (hm : ∀ y ∈ g.map fun (k : Nat) => (k : Int), y ≤ x) : x = ((firsts g).length : Int) - 1 := can_max h.can hx hm
theorem Kn.stop {k : Nat} {g g' : List Nat} (h : Kn flag lead m n k g) (h' : Kn flag lead m n (k + 1) g') (hl : ∀ i c, i < n → c < m → lead i c < n) (e : (firsts g').length = (firsts g).length) : ∀ i j, i < n → j < n → (g'.getD i 0 = g'.getD j 0 ↔ ∀ w, Rw m w → flag (run lead i w) = flag (run lead j w)) := fun i j hi hj => by
  rw [h'.rel i j hi hj]
  have hs : Stb flag lead m n k := stb_of (by rw [← h.reps, ← h'.reps, e])
  constructor
  · intro hE w hw
    have := stb_all hl hs (1 + w.length) i j hi hj (eb_le (Nat.le_succ k) hE)
    exact eb_row.mp this w hw (by omega)
  · intro hE
    exact eb_row.mpr fun w hw _ => hE w hw
theorem Kn.grow {k : Nat} {g g' : List Nat} (h : Kn flag lead m n k g) (h' : Kn flag lead m n (k + 1) g') (e : (firsts g').length ≠ (firsts g).length) : (firsts g).length < (firsts g').length ∧ (firsts g').length ≤ n := by
  have h1 := (reps_sub (flag := flag) (lead := lead) (m := m) (n := n) k).length_le
  have h2 := reps_le (flag := flag) (lead := lead) (m := m) (n := n) (k + 1)
  rw [← h.reps, ← h'.reps] at h1
  rw [← h'.reps] at h2
  omega
def clsOf (g : List Nat) (i : Nat) : List (List Nat) := (firsts (g.take i)).map fun k => (List.range i).filter fun j => g.getD j 0 == k
end
end UW
set_option maxHeartbeats 1000000
namespace UW
section
variable {α : Type} [DecidableEq α] {lead : α → Nat → α} {isl : α → Bool} {sg : List Nat} {b : α}
def innG (lead : α → Nat → α) (isl : α → Bool) (t : α) (r : List Nat) : Nat → List Nat → List (α × List Nat) → List (α × List Nat)
  | _, [], L => L
  | i, c :: cs, L => if lead t i ∈ L.map (·.1) then innG lead isl t r (i + 1) cs L else if isl (lead t i) = true then L ++ [(lead t i, r ++ [c])] else innG lead isl t r (i + 1) cs (L ++ [(lead t i, r ++ [c])])
def outG (lead : α → Nat → α) (isl : α → Bool) (sg : List Nat) (lastOf : List (α × List Nat) → α) : Nat → Nat → List (α × List Nat) → List (α × List Nat)
  | 0, _, L => L
  | n + 1, at_, L => match L[at_]? with
    | none => L
    | some (t, r) => if isl (lastOf L) = true then L else outG lead isl sg lastOf n (at_ + 1) (innG lead isl t r 0 sg L)
def conv (sg : List Nat) (L : List (α × List Nat)) : List (α × List Nat) := L.map fun p => (p.1, p.2.map fun c => sg.idxOf c)
theorem conv_get {L : List (α × List Nat)} {k : Nat} {p : α × List Nat} (h : L[k]? = some p) : (conv sg L)[k]? = some (p.1, p.2.map fun c => sg.idxOf c) := by
  unfold conv; rw [List.getElem?_map, h]; rfl
theorem conv_mem {L : List (α × List Nat)} {q : α × List Nat} (h : q ∈ conv sg L) : ∃ p ∈ L, q.1 = p.1 := by
  obtain ⟨p, hp, rfl⟩ := List.mem_map.mp h
  exact ⟨p, hp, rfl⟩
theorem mem_conv {L : List (α × List Nat)} {p : α × List Nat} (h : p ∈ L) : ∃ q ∈ conv sg L, q.1 = p.1 := ⟨_, List.mem_map.mpr ⟨p, h, rfl⟩, rfl⟩
abbrev StC (lead : α → Nat → α) (isl : α → Bool) (sg : List Nat) (b : α) (L : List (α × List Nat)) (k i : Nat) : Prop := St lead sg.length (fun t => isl t = true) b (conv sg L) k i
def Non (isl : α → Bool) (L : List (α × List Nat)) : Prop := ∀ q ∈ L, isl q.1 = false
def Fnd (lead : α → Nat → α) (isl : α → Bool) (sg : List Nat) (b : α) (L : List (α × List Nat)) : Prop := (∃ k i, StC lead isl sg b L k i) ∧ ∃ p, L[L.length - 1]? = some p ∧ isl p.1 = true
theorem innG_ok (nd : sg.Nodup) {k : Nat} {t : α} {r : List Nat} : ∀ (cs : List Nat) (i : Nat) (L : List (α × List Nat)), sg.drop i = cs → i ≤ sg.length → StC lead isl sg b L k i → L[k]? = some (t, r) → Non isl L →
    (StC lead isl sg b (innG lead isl t r i cs L) k sg.length ∧ Non isl (innG lead isl t r i cs L)) ∨ Fnd lead isl sg b (innG lead isl t r i cs L)
  | [], i, L, hd, hi, st, hk, hn => by
    have : i = sg.length := by
      have := congrArg List.length hd
      rw [List.length_drop] at this
      simp at this
      omega
    subst this
    exact .inl ⟨st, hn⟩
  | c :: cs, i, L, hd, hi, st, hk, hn => by
    have hil : i < sg.length := by
      have := congrArg List.length hd
      rw [List.length_drop] at this
      simp at this
      omega
    have hc : sg[i]? = some c := by
      have e : (sg.drop i)[0]? = some c := by rw [hd]; rfl
      rw [List.getElem?_drop] at e
      simpa using e
    have hix : sg.idxOf c = i := by
      obtain ⟨h1, h2⟩ := List.getElem?_eq_some_iff.mp hc
      rw [← h2]; exact nd.idxOf_getElem i h1
    have hd2 : sg.drop (i + 1) = cs := by
      have : (sg.drop i).drop 1 = cs := by rw [hd]; rfl
      rw [List.drop_drop] at this
      exact this
    have hkc : (conv sg L)[k]? = some (t, r.map fun c => sg.idxOf c) := conv_get hk
    unfold innG
    by_cases hm : lead t i ∈ L.map (·.1)
    · rw [if_pos hm]
      obtain ⟨q, hq, e⟩ := List.mem_map.mp hm
      obtain ⟨q', hq', e'⟩ := mem_conv (sg := sg) hq
      exact innG_ok nd cs (i + 1) L hd2 hil (st.old hkc ⟨q', hq', e'.trans e⟩) hk hn
    · rw [if_neg hm]
      have hnew : ∀ q ∈ conv sg L, q.1 ≠ lead t i := fun q hq e => by
        obtain ⟨p, hp, e2⟩ := conv_mem hq
        exact hm (List.mem_map.mpr ⟨p, hp, e2.symm.trans e⟩)
      have hnl : ∀ q ∈ conv sg L, ¬ isl q.1 = true := fun q hq h => by
        obtain ⟨p, hp, e2⟩ := conv_mem hq
        rw [e2, hn p hp] at h; cases h
      have st2 : StC lead isl sg b (L ++ [(lead t i, r ++ [c])]) k (i + 1) := by
        have e := st.new hkc hil hnew hnl
        have e2 : conv sg (L ++ [(lead t i, r ++ [c])]) = conv sg L ++ [(lead t i, (r.map fun c => sg.idxOf c) ++ [i])] := by
          unfold conv
          rw [List.map_append, List.map_cons, List.map_nil, List.map_append, List.map_cons, List.map_nil, hix]
        show St lead sg.length (fun t => isl t = true) b (conv sg (L ++ [(lead t i, r ++ [c])])) k (i + 1)
        rw [e2]
        exact e
      cases hl : isl (lead t i) with
      | true =>
        rw [if_pos rfl]
        exact .inr ⟨⟨k, i + 1, st2⟩, (lead t i, r ++ [c]), by rw [List.length_append]; simp, hl⟩
      | false =>
        rw [if_neg (by simp)]
        refine innG_ok nd cs (i + 1) _ hd2 hil st2 (by rw [List.getElem?_append_left (List.getElem?_eq_some_iff.mp hk).1]; exact hk) fun q hq => ?_
        rcases List.mem_append.mp hq with h | h
        · exact hn q h
        · rw [List.mem_singleton.mp h]; exact hl
def Ends (lead : α → Nat → α) (isl : α → Bool) (sg : List Nat) (b : α) (L : List (α × List Nat)) : Prop := Fnd lead isl sg b L ∨ (Non isl L ∧ L ≠ [] ∧ ∀ w, Rw sg.length w → isl (run lead b w) = false)
theorem outG_ok (nd : sg.Nodup) {lastOf : List (α × List Nat) → α} (hlo : ∀ (L : List (α × List Nat)) p, L[L.length - 1]? = some p → lastOf L = p.1) {N : Nat} (hN : ∀ L k i, StC lead isl sg b L k i → L.length ≤ N) : ∀ (n at_ : Nat) (L : List (α × List Nat)), N < at_ + n → StC lead isl sg b L at_ 0 → Non isl L → Ends lead isl sg b (outG lead isl sg lastOf n at_ L) := by
  have fin : ∀ (at_ : Nat) (L : List (α × List Nat)), L.length ≤ at_ → StC lead isl sg b L at_ 0 → Non isl L → Ends lead isl sg b L := fun at_ L hle st hn => by
    refine .inr ⟨hn, fun h => ?_, fun w hw => ?_⟩
    · have := st.zero; rw [h] at this; cases this
    · have := st.none (by unfold conv; rw [List.length_map]; exact hle) (fun q hq h => by
        obtain ⟨p, hp, e⟩ := conv_mem hq
        rw [e, hn p hp] at h; cases h) w hw
      cases e : isl (run lead b w) with
      | false => rfl
      | true => exact absurd e this
  intro n
  induction n with
  | zero =>
    intro at_ L hlt st hn
    exact fin at_ L (by have := hN L _ _ st; omega) st hn
  | succ n ih =>
    intro at_ L hlt st hn
    unfold outG
    cases e : L[at_]? with
    | none => exact fin at_ L (List.getElem?_eq_none_iff.mp e) st hn
    | some p =>
      obtain ⟨t, r⟩ := p
      have hlen : at_ < L.length := (List.getElem?_eq_some_iff.mp e).1
      have hlast : isl (lastOf L) = false := by
        have hp : L[L.length - 1]? = some L[L.length - 1] := List.getElem?_eq_getElem (by omega)
        rw [hlo L _ hp]
        exact hn _ (List.getElem_mem _)
      show Ends lead isl sg b (if isl (lastOf L) = true then L else outG lead isl sg lastOf n (at_ + 1) (innG lead isl t r 0 sg L))
      rw [hlast, if_neg (by simp)]
      rcases innG_ok nd sg 0 L rfl (Nat.zero_le _) st e hn with ⟨st2, hn2⟩ | hf
      · exact ih (at_ + 1) _ (by omega) st2.next hn2
      · refine .inl ?_
        have key : outG lead isl sg lastOf n (at_ + 1) (innG lead isl t r 0 sg L) = innG lead isl t r 0 sg L := by
          obtain ⟨_, p, hp, hl⟩ := hf
          cases n with
          | zero => rfl
          | succ n =>
            unfold outG
            split
            · rfl
            · rw [hlo _ p hp, hl, if_pos rfl]
        rw [key]
        exact hf
theorem Fnd.least {L : List (α × List Nat)} (h : Fnd lead isl sg b L) : ∃ p, L[L.length - 1]? = some p ∧ isl p.1 = true ∧ run lead b (p.2.map fun c => sg.idxOf c) = p.1 ∧ Rw sg.length (p.2.map fun c => sg.idxOf c) ∧ ∀ w, Rw sg.length w → isl (run lead b w) = true → ¬ sl w (p.2.map fun c => sg.idxOf c) := by
  obtain ⟨⟨k, i, st⟩, p, hp, hl⟩ := h
  have hc : (conv sg L)[L.length - 1]? = some (p.1, p.2.map fun c => sg.idxOf c) := conv_get hp
  obtain ⟨h1, h2⟩ := st.row _ _ hc
  refine ⟨p, hp, hl, h1, h2, fun w hw hlw => st.found (p := (p.1, p.2.map fun c => sg.idxOf c)) (by unfold conv at hc ⊢; rw [List.length_map]; exact hc) w hw hlw⟩
end
end UW
set_option maxHeartbeats 2000000
namespace LX
open PySem PySem.Spec PyProof.Rows L2 C8 SX
def tDisp1T (tk tv : TE) : TE := fun σ H Q => ∀ p, H p = none → tk σ (upd H p (.dT [])) fun x H1 => tv σ H1 fun y H2 => ∃ (b : Addr) (k : List Key), x = .ref b ∧ H2 b = some (.tup (k.map kV)) ∧ H2 p = some (.dT []) ∧ Q (.ref p) (upd H2 p (.dT [(k, y)]))
theorem pe_disp1T {X : Cx} {k v : Expr} {pos : Pos} {tk tv : TE} (hu : X.A.units + 1 < cLine) (hk : PE X k tk) (hv : PE X v tv) : PE X (.Dict [some k] [v] pos) (tDisp1T tk tv) := by
  refine ⟨fun pins s σ H Q I q => ?_⟩
  have hn := I.hok.fresh (Nat.le_refl s.heap.objs.size)
  have I1 := I.laid (a := s.heap.objs.size) (o := .dT []) (h' := s.heap.push { cls := .type "dict", data := .dict #[] }) (t' := s.toks) (fun _ _ q => Heap.get?_push_of_some _ q) (Nat.le_refl _) (dt_empty s.heap I.big)
  have hs := zip_pairTrees [some k] [v] X.env pos rfl rfl
  rw [arm_eval_Dict, hs, dictDisplay_pairs (pairTrees [some k] [v] X.env pos) (by intro h; cases h) (by show 1 < 17; decide)]
  refine wpAny_bind (wpAny_standAt (wpAny_bind ?_))
  unfold subDict
  refine wpAny_bind (wpAny_alloc ?_)
  refine wpAny_bind (wpAny_holding ?_)
  rw [if_pos (show (pairTrees [some k] [v] X.env pos).length ≤ 15 by show 1 ≤ 15; decide)]
  refine wpAny_bind (pairTrees_cons_walk (thn (hk.run pins _ σ _ _ I1 (q _ hn)) fun u s1 ⟨x, H1, I1', rx, q1⟩ => thn (hv.run pins s1 σ H1 _ I1' q1) fun w2 s2 ⟨y, H2, I2, ry, b, key, ex, eb, ep, q2⟩ => pairTrees_nil_walk ?_))
  subst ex
  obtain rfl : u = Value.ref b := rx
  obtain ⟨z, hd, xs, rel, dd⟩ := dt_of I2.hok ep
  refine wpAny_holding ?_
  refine wpAny_bind ?_
  rw [List.forIn_cons]
  refine wpAny_bind (wpAny_bind ?_)
  have hu0 : (tupleKind (mixKind X.prog X.w)).room X.A := Nat.lt_of_succ_lt hu
  refine wpAny_dictSet_heap (hsz := by rw [← Paired.length rel]; exact z) hu0 (key_of I2.hok eb) dd fun h' dd' hs' => ?_
  refine wpAny_pure ?_
  show wpAny _ _ (forIn ([] : List (Value × Value)) PUnit.unit _) _ _ _
  rw [List.forIn_nil]
  refine wpAny_pure (wpAny_pure (wpAny_pure (wpAny_pure ?_)))
  obtain ⟨qo, es, ep2, hq, h2, h3, h4, _, h5⟩ := dd'
  refine ⟨.ref s.heap.objs.size, upd H2 s.heap.objs.size (.dT [(key, y)]), ?_, rfl, q2⟩
  refine d_write I2 (by rw [ep]; exact True.intro) hs' ⟨qo, hq⟩ ⟨by show 1 ≤ sizeLine; decide, hd, _, (rel.put key eb ry).keeps fun c ys ec => ?_, qo, es, ep2, hq, h2, h3, h4, h5⟩
  rw [upd_ne (ne_of ec ep (fun z => nomatch z))]
  exact ec
end LX
set_option maxHeartbeats 4000000
namespace Toy
open PySem L2 C8 SX LX
abbrev WT := List (List Nat × List Nat)
def lastG (L : WT) : List Nat := (L.getLast?.getD ([], [])).1
theorem lastG_of {L : WT} {p : List Nat × List Nat} (h : L[L.length - 1]? = some p) : lastG L = p.1 := by
  unfold lastG; rw [List.getLast?_eq_getElem?, h]; rfl
def walkG (lead : List Nat → Nat → List Nat) (isl : List Nat → Bool) (sg : List Nat) (N : Nat) (b : List Nat) : WT := UW.outG lead isl sg lastG (N + 1) 0 [(b, [])]
def Few (Th : List Nat → Prop) (N : Nat) : Prop := ∀ l : List (List Nat), l.Nodup → (∀ x ∈ l, Th x) → l.length ≤ N
structure TG (Th : List Nat → Prop) (L : WT) : Prop where
  nd : (L.map (·.1)).Nodup
  mem : ∀ p ∈ L, Th p.1
  rl : ∀ p ∈ L, p.2.length < L.length
theorem TG.len {Th : List Nat → Prop} {N : Nat} (hN : Few Th N) {L : WT} (h : TG Th L) : L.length ≤ N := by
  have := hN (L.map (·.1)) h.nd fun x hx => by
    obtain ⟨p, hp, rfl⟩ := List.mem_map.mp hx
    exact h.mem p hp
  rwa [List.length_map] at this
theorem TG.put {Th : List Nat → Prop} {L : WT} (h : TG Th L) {f r : List Nat} (hf : Th f) (hn : f ∉ L.map (·.1)) (hr : r.length ≤ L.length) : TG Th (L ++ [(f, r)]) := by
  refine ⟨?_, fun p hp => ?_, fun p hp => ?_⟩
  · rw [List.map_append, List.nodup_append]
    refine ⟨h.nd, by simp, fun a ha b hb e => ?_⟩
    have : b = f := by simpa using hb
    subst this; subst e; exact hn ha
  · rcases List.mem_append.mp hp with q | q
    · exact h.mem p q
    · rw [List.mem_singleton.mp q]; exact hf
  · rw [List.length_append, List.length_singleton]
    rcases List.mem_append.mp hp with q | q
    · exact Nat.lt_succ_of_lt (h.rl p q)
    · rw [List.mem_singleton.mp q]; exact Nat.lt_succ_of_le hr
theorem TG.one {Th : List Nat → Prop} {b : List Nat} (hb : Th b) : TG Th [(b, [])] := ⟨by simp, fun q hq => by rw [List.mem_singleton.mp hq]; exact hb, fun q hq => by rw [List.mem_singleton.mp hq]; exact Nat.zero_lt_one⟩
section
variable {lead : List Nat → Nat → List Nat} {isl : List Nat → Bool} {sg : List Nat} {t r : List Nat} {i c : Nat} {cs : List Nat} {L : WT}
theorem innG_in (h : lead t i ∈ L.map (·.1)) : UW.innG lead isl t r i (c :: cs) L = UW.innG lead isl t r (i + 1) cs L := by
  rw [UW.innG, if_pos h]
theorem innG_hit (h : lead t i ∉ L.map (·.1)) (hl : isl (lead t i) = true) : UW.innG lead isl t r i (c :: cs) L = L ++ [(lead t i, r ++ [c])] := by
  rw [UW.innG, if_neg h, if_pos hl]
theorem innG_new (h : lead t i ∉ L.map (·.1)) (hl : isl (lead t i) = false) : UW.innG lead isl t r i (c :: cs) L = UW.innG lead isl t r (i + 1) cs (L ++ [(lead t i, r ++ [c])]) := by
  rw [UW.innG, if_neg h, if_neg (by rw [hl]; exact Bool.false_ne_true)]
theorem outG_none {n at_ : Nat} (h : L.length ≤ at_) : UW.outG lead isl sg lastG n at_ L = L := by
  cases n with
  | zero => rfl
  | succ n =>
    unfold UW.outG
    rw [List.getElem?_eq_none h]
theorem outG_last {n at_ : Nat} (h : isl (lastG L) = true) : UW.outG lead isl sg lastG n at_ L = L := by
  cases n with
  | zero => rfl
  | succ n =>
    unfold UW.outG
    cases e : L[at_]? with
    | none => rfl
    | some q => obtain ⟨t, r⟩ := q; show (if isl (lastG L) = true then L else _) = L; rw [if_pos h]
theorem outG_some {n at_ : Nat} (h : L[at_]? = some (t, r)) (hl : isl (lastG L) = false) : UW.outG lead isl sg lastG (n + 1) at_ L = UW.outG lead isl sg lastG n (at_ + 1) (UW.innG lead isl t r 0 sg L) := by
  rw [UW.outG, h]
  dsimp only
  rw [if_neg (by rw [hl]; exact Bool.false_ne_true)]
theorem innG_tg {Th : List Nat → Prop} : ∀ (cs : List Nat) (i : Nat) (L : WT), TG Th L → (t, r) ∈ L → (∀ j, i ≤ j → j < i + cs.length → Th (lead t j)) → TG Th (UW.innG lead isl t r i cs L)
  | [], _, L, h, _, _ => h
  | c :: cs, i, L, h, ht, hl => by
    have ih : ∀ L : WT, TG Th L → (t, r) ∈ L → TG Th (UW.innG lead isl t r (i + 1) cs L) := fun L h ht => innG_tg cs (i + 1) L h ht fun j h1 h2 => hl j (by omega) (by simp only [List.length_cons]; omega)
    by_cases hin : lead t i ∈ L.map (·.1)
    · rw [innG_in hin]; exact ih L h ht
    · have hp : TG Th (L ++ [(lead t i, r ++ [c])]) := h.put (hl i (Nat.le_refl _) (by simp only [List.length_cons]; omega)) hin (by have := h.rl _ ht; rw [List.length_append, List.length_singleton]; exact this)
      cases e : isl (lead t i) with
      | true => rw [innG_hit hin e]; exact hp
      | false => rw [innG_new hin e]; exact ih _ hp (List.mem_append_left _ ht)
theorem outG_tg {Th : List Nat → Prop} (hlead : ∀ t i, Th t → i < sg.length → Th (lead t i)) : ∀ (k at_ : Nat) (L : WT), TG Th L → TG Th (UW.outG lead isl sg lastG k at_ L)
  | 0, _, L, h => h
  | k + 1, at_, L, h => by
    cases e : L[at_]? with
    | none => rw [outG_none (by rw [List.getElem?_eq_none_iff] at e; exact e)]; exact h
    | some q =>
      obtain ⟨t, r⟩ := q
      have hm := List.mem_of_getElem? e
      cases el : isl (lastG L) with
      | true => rw [outG_last el]; exact h
      | false =>
        rw [outG_some e el]
        exact outG_tg hlead k _ _ (innG_tg sg 0 L h hm fun j _ h2 => hlead _ _ (h.mem _ hm) (by omega))
theorem walkG_tg {Th : List Nat → Prop} {N : Nat} {b : List Nat} (hb : Th b) (hlead : ∀ t i, Th t → i < sg.length → Th (lead t i)) : TG Th (walkG lead isl sg N b) := outG_tg hlead _ _ _ (TG.one hb)
end
def tK (kf : List Nat → List Key) (L : WT) : List (List Key × V) := L.map fun p => (kf p.1, .str (S p.2))
section
variable {kf : List Nat → List Key} {L : WT} {f r : List Nat}
theorem valV_none' {kvs : List (List Key × V)} {k : List Key} (h : ∀ p ∈ kvs, p.1 ≠ k) : valV kvs k = none := by
  induction kvs with
  | nil => rfl
  | cons p r ih => rw [valV_neg (h p List.mem_cons_self)]; exact ih fun q hq => h q (List.mem_cons_of_mem _ hq)
theorem tK_none (hk : ∀ p ∈ L, kf p.1 = kf f → p.1 = f) (h : f ∉ L.map (·.1)) : valV (tK kf L) (kf f) = none := valV_none' fun p hp e => by
  obtain ⟨q, hq, rfl⟩ := List.mem_map.mp hp
  exact h (List.mem_map.mpr ⟨q, hq, hk q hq e⟩)
theorem tK_some (hk : ∀ p ∈ L, kf p.1 = kf f → p.1 = f) (nd : (L.map (·.1)).Nodup) (h : (f, r) ∈ L) : valV (tK kf L) (kf f) = some (.str (S r)) := by
  induction L with
  | nil => cases h
  | cons p L ih =>
    rw [List.map_cons, List.nodup_cons] at nd
    unfold tK at ih ⊢
    rw [List.map_cons]
    rcases List.mem_cons.mp h with e | e
    · rw [← e]; exact valV_pos rfl
    · rw [valV_neg fun q => ?_]
      · exact ih (fun q hq => hk q (List.mem_cons_of_mem _ hq)) nd.2 e
      · have : p.1 = f := hk p List.mem_cons_self q
        exact nd.1 (by rw [this]; exact List.mem_map.mpr ⟨(f, r), e, rfl⟩)
theorem putK_tK (hk : ∀ p ∈ L, kf p.1 = kf f → p.1 = f) (h : f ∉ L.map (·.1)) : putK (tK kf L) (kf f) (.str (S r)) = tK kf (L ++ [(f, r)]) := by
  rw [putK_new _ (tK_none hk h)]; unfold tK; rw [List.map_append]; rfl
end
theorem tK_len (kf : List Nat → List Key) (L : WT) : (tK kf L).length = L.length := by unfold tK; rw [List.length_map]
def kI (t : List Nat) : List Key := t.map fun i => Sum.inl ((i : Nat) : Int)
def tI (t : List Nat) : List V := t.map fun i => V.int (i : Nat)
theorem kI_tI (t : List Nat) : (kI t).map kV = tI t := by unfold kI tI; rw [List.map_map]; rfl
theorem kI_inj : ∀ {a b : List Nat}, kI a = kI b → a = b
  | [], [], _ => rfl
  | [], _ :: _, h => by cases h
  | _ :: _, [], h => by cases h
  | x :: a, y :: b, h => by
    unfold kI at h
    rw [List.map_cons, List.map_cons, List.cons.injEq] at h
    have e := Sum.inl.inj h.1
    rw [kI_inj (a := a) (b := b) h.2, show x = y by omega]
theorem tI_len (t : List Nat) : (tI t).length = t.length := by unfold tI; rw [List.length_map]
theorem tI_get {t : List Nat} {i : Nat} {x : V} (h : (tI t)[i]? = some x) : ∃ y, t[i]? = some y ∧ x = .int (y : Nat) := by
  unfold tI at h
  rw [List.getElem?_map] at h
  cases e : t[i]? with
  | none => rw [e] at h; cases h
  | some y => rw [e] at h; exact ⟨y, rfl, (Option.some.inj h).symm⟩
def AtT (H : Hp) (as : List Addr) (L : WT) : Prop := as.length = L.length ∧ ∀ (i : Nat) (a : Addr) (q : List Nat × List Nat), as[i]? = some a → L[i]? = some q → H a = some (.tup (tI q.1))
theorem AtT.same {H H' : Hp} {as : List Addr} {L : WT} (h : AtT H as L) (s : Same H H') : AtT H' as L := ⟨h.1, fun i a q e1 e2 => s _ _ (h.2 i a q e1 e2)⟩
theorem AtT.keep {H H' : Hp} {as : List Addr} {L : WT} (h : AtT H as L) (s : ∀ a o, H a = some o → (∀ ls, o ≠ .lst ls) → (∀ ks, o ≠ .dT ks) → H' a = some o) : AtT H' as L := ⟨h.1, fun i a q e1 e2 => s _ _ (h.2 i a q e1 e2) (fun _ z => by cases z) (fun _ z => by cases z)⟩
theorem AtT.put {H : Hp} {as : List Addr} {L : WT} (h : AtT H as L) {a : Addr} {f r : List Nat} (ha : H a = some (.tup (tI f))) : AtT H (as ++ [a]) (L ++ [(f, r)]) := by
  refine ⟨by rw [List.length_append, List.length_append, h.1]; rfl, fun i b q e1 e2 => ?_⟩
  rcases Nat.lt_or_ge i as.length with hi | hi
  · rw [List.getElem?_append_left hi] at e1
    rw [List.getElem?_append_left (by rw [← h.1]; exact hi)] at e2
    exact h.2 i b q e1 e2
  · rw [List.getElem?_append_right hi] at e1
    rw [List.getElem?_append_right (by rw [← h.1]; exact hi)] at e2
    have hi2 : i - as.length = 0 := by
      have := (List.getElem?_eq_some_iff.mp e1).1
      rw [List.length_singleton] at this; omega
    rw [hi2] at e1
    rw [show i - L.length = 0 by rw [← h.1]; exact hi2] at e2
    cases e1; cases e2
    exact ha
theorem AtT.get {H : Hp} {as : List Addr} {L : WT} (h : AtT H as L) {i : Nat} {q : List Nat × List Nat} (e : L[i]? = some q) : ∃ a, as[i]? = some a ∧ H a = some (.tup (tI q.1)) := by
  have hi : i < as.length := by rw [h.1]; exact (List.getElem?_eq_some_iff.mp e).1
  exact ⟨as[i], List.getElem?_eq_getElem hi, h.2 i _ q (List.getElem?_eq_getElem hi) e⟩
theorem refs_get {as : List Addr} {i : Nat} {a : Addr} (h : as[i]? = some a) : (as.map V.ref)[i]? = some (.ref a) := by rw [List.getElem?_map, h]; rfl
theorem kI_k {n : Nat} {L : WT} {f : List Nat} : ∀ p ∈ L, kI p.1 = kI f → p.1 = f := fun _ _ e => kI_inj e
theorem refs_of : ∀ {ys : List V}, (∀ (j : Nat) y, ys[j]? = some y → ∃ t, y = .ref t) → ∃ ps : List Addr, ys = ps.map V.ref
  | [], _ => ⟨[], rfl⟩
  | y :: ys, h => by
    obtain ⟨t, rfl⟩ := h 0 y rfl
    obtain ⟨ps, rfl⟩ := refs_of (ys := ys) fun j z e => h (j + 1) z e
    exact ⟨t :: ps, rfl⟩
theorem at_neg {xs : List V} {v : V} (h : 0 < xs.length) (e : xs[xs.length - 1]? = some v) : atI xs (-1) = some v := by
  have : ixN xs.length (-1) = some (xs.length - 1) := by
    unfold ixN
    rw [if_neg (by decide), if_pos (by omega)]
    congr 1; omega
  unfold atI
  rw [this]; exact e
theorem AtT.upd {H : Hp} {as : List Addr} {L : WT} (h : AtT H as L) {x : Addr} {o : HO} (hx : ∀ xs, H x ≠ some (.tup xs)) : AtT (L2.upd H x o) as L := ⟨h.1, fun i a q e1 e2 => by
  have := h.2 i a q e1 e2
  rw [upd_ne (fun z => by rw [z] at this; exact hx _ this)]; exact this⟩
end Toy
set_option maxHeartbeats 4000000
namespace Toy
open PySem L2 C8 SX LX
section
variable {P : Program} {w : World} {K : PySem.W.Frag} {mg : Str → Option Value} {base : Heap}
abbrev s_until : Stmt := top 20
abbrev n_until : List Str := ["signs", "begin", "lead", "is_last", "things", "rows", "at", "number", "sign", "following", "thing"]
theorem sc_until : FnScope n_until ["signs", "begin", "lead", "is_last"] (fnScope s_until) := fnScope_by (by decide +kernel)
def spLG (Th : List Nat → Prop) (m : Nat) (lead : List Nat → Nat → List Nat) : Sp := fun vs H Q _ => ∃ (a : Addr) (t : List Nat) (i : Nat), vs = [.ref a, .int (i : Nat)] ∧ H a = some (.tup (tI t)) ∧ Th t ∧ i < m ∧ ∀ (u : Addr) (H' : Hp), Same H H' → H' u = some (.tup (tI (lead t i))) → Q (.ref u) H'
def spIG (Th : List Nat → Prop) (isl : List Nat → Bool) : Sp := fun vs H Q _ => ∃ (a : Addr) (t : List Nat), vs = [.ref a] ∧ H a = some (.tup (tI t)) ∧ Th t ∧ ∀ H', Same H H' → Q (.bl (isl t)) H'
def PairsAt (H : Hp) (ps : List Addr) (L : WT) : Prop := ps.length = L.length ∧ ∀ (i : Nat) (a : Addr) (q : List Nat × List Nat), ps[i]? = some a → L[i]? = some q → ∃ u, H a = some (.tup [.ref u, .str (S q.2)]) ∧ H u = some (.tup (tI q.1))
def spUntilG (Th : List Nat → Prop) (N : Nat) (gl gi : Addr) (trl tri : Hp → Prop) (lead : List Nat → Nat → List Nat) (isl : List Nat → Bool) (sg : List Nat) : Sp := fun vs H Q _ => ∃ (pb : Addr) (b : List Nat), vs = [.str (S sg), .ref pb, .ref gl, .ref gi] ∧ H pb = some (.tup (tI b)) ∧ Th b ∧ trl H ∧ tri H ∧
  ∀ (p : Addr) (ps : List Addr) (H' : Hp), Same H H' → H p = none → H' p = some (.lst (ps.map V.ref)) → PairsAt H' ps (walkG lead isl sg N b) → Q (.ref p) H'
theorem ok_untilG {Th : List Nat → Prop} {N : Nat} (hN : Few Th N) (h900 : N ≤ 900) {isl : List Nat → Bool} {kl : Nat} {gl gi : Addr} {trl tri : Hp → Prop} {lead : List Nat → Nat → List Nat} {sg : List Nat} (hl3 : sg.length ≤ 3) (T : BT mg) (c_lead : CV P w K mg base kl gl trl (spLG Th sg.length lead)) (c_is_last : CV P w K mg base kl gi tri (spIG Th isl))
    (stl : ∀ H H', Same H H' → trl H → trl H') (sti : ∀ H H', Same H H' → tri H → tri H') (hlead : ∀ t i, Th t → i < sg.length → Th (lead t i))
    {f : Addr} {fd : FuncData} (F : Def K mg "_walked_until" s_until f fd) (b : Binds K fd ["signs", "begin", "lead", "is_last"] []) : Cal P w K mg base (kl + 1) "_walked_until" (spUntilG Th N gl gi trl tri lead isl sg) [] := by
  refine cal0 F b .nil sc_until (fun vs H Q E h => ?_) (fun cdv A outer s H vs Q E hr h => ?_)
  · obtain ⟨pb, b, rfl, _⟩ := h; rfl
  · obtain ⟨pb, b, rfl, hb, hbn, htl, hti, k⟩ := h
    refine ⟨_, (pss_cons (ps_set (i := 4) sc_until.nd rfl (.inl rfl) (pe_lst (pa_cons (pv 1) pa_nil)))
      (pss_cons (ps_set (i := 5) sc_until.nd rfl (.inr rfl) (pe_disp1T (hu_of hr) (pv 1) pe_str))
      (pss_cons (ps_set (i := 6) sc_until.nd rfl (.inl rfl) pe_int)
      (pss_cons (ps_while PassesOwn.never (PW.pt (pw_and (pt_cmpR op_lt (pv 6) (pe_callB (lenK K) (by rfl) T.m_len PySem.boot_len (pa_cons (pv 4) pa_nil)) (nomark _)) (pw_and1 (pt_not (pt_val (pe_callV (i := 3) c_is_last hr (Nat.le_refl _) rfl (.inl rfl) (pa_cons (pe_ix (ixl K) (pv 4) (pe_un un_neg pe_int) (fun _ _ => rfl)) pa_nil))))))) 
        (pss_cons (ps_for PassesOwn.never rfl (pi_enumX (by rfl) T.m_enumerate (pa_cons (pv 0) pa_nil)) (tupK K 2 (pgs_cons (pg_name (i := 7) sc_until.nd rfl (.inl rfl)) (pgs_cons (pg_name (i := 8) sc_until.nd rfl (.inl rfl)) pgs_nil))) 
          (pss_cons (ps_set (i := 9) sc_until.nd rfl (.inl rfl) (pe_callV (i := 2) c_lead hr (Nat.le_refl _) rfl (.inl rfl) (pa_cons (pe_ix (ixl K) (pv 4) (pv 6) (fun _ _ => rfl)) (pa_cons (pv 7) pa_nil))))
          (pss_one (ps_if (pt_cmp (pc_dnotin (hu_of hr) (pv 9) (pv 5))) 
            (pss_cons (ps_dput (hu_of hr) (pv 5) (pv 9) (pe_op op_add_str (pe_dget (hu_of hr) (pv 5) (pe_ix (ixl K) (pv 4) (pv 6) (fun _ _ => rfl)) (fun _ _ => rfl)) (pv 8)) rfl)
            (pss_cons (ps_expr (pe_bm PySem.F.plainAttrs_list PySem.F.slot_list_append PySem.F.type_list_append mt_append (pv 4) (pa_cons (pv 9) pa_nil)))
            (pss_one (ps_if (pt_val (pe_callV (i := 3) c_is_last hr (Nat.le_refl _) rfl (.inl rfl) (pa_cons (pv 9) pa_nil))) 
              (pss_one ps_break
              )
             pss_nil)
            )))
           pss_nil)
          )))
        (pss_one (ps_aug (i := 6) sc_until.nd rfl (.inl rfl) pe_int ip_add)
        )))
      (pss_one (ps_ret (pe_lc (own := [("thing", 10)]) rfl sc_until.nd (pi_list (pv 4)) (blkOk_by (N := n_until) (sc := fnScope s_until) (by decide +kernel)) (fun _ _ _ _ _ => (pg_name (i := 10) sc_until.nd rfl (.inl rfl))) (fun _ _ _ _ _ => pts_nil) (fun _ _ _ _ _ => (pe_tup (pa_cons (pv 10) (pa_cons (pe_dget (hu_of hr) (pv 5) (pv 10) (fun _ _ => rfl)) pa_nil))))))
      ))))), ?_⟩
    refine ⟨_, rfl, (by show 1 ≤ sizeLine; decide), fun p hp => ?_⟩
    have hpb : pb ≠ p := ne_of_none hb hp
    refine fun d hd => ⟨_, rfl, pb, kI b, rfl, ?_, upd_same, ?_⟩
    · rw [kI_tI, upd_ne (fun e => by rw [← e, upd_ne hpb, hb] at hd; cases hd), upd_ne hpb]; exact hb
    have hpd : p ≠ d := fun e => by rw [← e, upd_same] at hd; cases hd
    have hd0 : H d = none := by rw [upd_ne hpd.symm] at hd; exact hd
    generalize hH1 : upd (upd (upd H p (.lst [.ref pb])) d (.dT [])) d (.dT [(kI b, V.str (Str.ofString ""))]) = H1
    have s1 : Same H H1 := by rw [← hH1]; exact sm_put (sm_put (sm_put (Same.refl H) hp) hd0) hd0
    have hp1 : H1 p = some (.lst (([pb] : List Addr).map V.ref)) := by rw [← hH1, upd_ne hpd, upd_ne hpd, upd_same]; rfl
    have hd1 : H1 d = some (.dT (tK kI [(b, [])])) := by rw [← hH1, upd_same, s_nil]; rfl
    have ha1 : AtT H1 [pb] [(b, [])] := ⟨rfl, fun i a q e1 e2 => by
      cases i with
      | zero => cases e1; cases e2; exact s1 _ _ hb
      | succ i => cases e1⟩
    clear hH1 hd
    have mk : ∀ {L : WT} {g : List Nat}, ∀ q ∈ L, kI q.1 = kI g → q.1 = g := fun _ _ e => kI_inj e
    refine ⟨fun m σ H' => ∃ (L : WT) (as : List Addr) (at_ : Nat) (s7 s8 s9 : Option V), m = (N + 1) - at_ ∧ at_ ≤ (N + 1) ∧ σ = [some (.str (S sg)), some (.ref pb), some (.ref gl), some (.ref gi), some (.ref p), some (.ref d), some (.int (at_ : Nat)), s7, s8, s9, none] ∧
      Same H H' ∧ H' p = some (.lst (as.map V.ref)) ∧ AtT H' as L ∧ H' d = some (.dT (tK kI L)) ∧ TG Th L ∧ 0 < L.length ∧ UW.outG lead isl sg lastG (N + 1 - at_) at_ L = walkG lead isl sg N b, ?_, ?_⟩
    · exact ⟨(N + 1), [(b, [])], [pb], 0, _, _, _, rfl, Nat.zero_le _, rfl, s1, hp1, ha1, hd1, TG.one hbn, Nat.zero_lt_one, rfl⟩
    rintro m σ H2 ⟨L, as, at_, s7, s8, s9, rfl, hat, rfl, s2, hp2, ha2, hd2, hW, hL0, hO⟩
    have hLN := hW.len hN
    have hlen : (as.map V.ref).length = L.length := by rw [List.length_map, ha2.1]
    refine ⟨_, rfl, _, rfl, p, _, rfl, .inl (SqL.of hp2), _, _, rfl, rfl, _, rfl, ?_⟩
    rw [hlen]
    refine ite2 (fun hc => ?_) (fun hc => ?_)
    · have hal : at_ < L.length := by rw [decide_eq_true_eq] at hc; omega
      obtain ⟨⟨t, r⟩, htr⟩ : ∃ q, L[at_]? = some q := ⟨_, List.getElem?_eq_getElem hal⟩
      obtain ⟨ql, htl'⟩ : ∃ q, L[L.length - 1]? = some q := ⟨_, List.getElem?_eq_getElem (by omega)⟩
      obtain ⟨al, hal1, hal2⟩ := ha2.get htl'
      have hti2 := sti _ _ s2 hti
      refine ⟨rfl, hti2, ?_⟩
      refine ⟨_, rfl, _, rfl, p, as.map V.ref, -1, .ref al, rfl, rfl, SqL.of hp2, at_neg (by rw [hlen]; omega) (by rw [hlen]; exact refs_get hal1), ?_⟩
      have hThl : Th ql.1 := hW.mem _ (List.mem_of_getElem? htl')
      have hlo : lastG L = ql.1 := lastG_of htl'
      refine ⟨hti2, al, ql.1, rfl, hal2, hThl, fun H3 h3 => ?_⟩
      have s3 := s2.trans h3
      have hp3 := h3 _ _ hp2
      have hd3 := h3 _ _ hd2
      have ha3 := ha2.same h3
      refine ⟨_, rfl, ?_⟩
      obtain ⟨n', hn'⟩ : ∃ n', (N + 1) - at_ = n' + 1 := ⟨N - at_, by omega⟩
      cases hil : isl ql.1 with
      | true =>
        refine iteN rfl ?_
        rw [outG_last (by rw [hlo]; exact hil)] at hO
        refine ⟨_, rfl, p, rfl, ⟨_, SqL.of hp3⟩, fun D hD => ?_⟩
        refine lc_keepH keep_same (walk_list (K := K) (a := p) (xs := as.map V.ref)) hD (by rw [hlen]; exact small1000 (by omega)) (fun j y H => ∃ t, y = .ref t ∧ ∀ q, L[j]? = some q → ∃ u, H t = some (.tup [.ref u, .str (S q.2)]) ∧ H u = some (.tup (tI q.1))) (fun H r => SqL.of (r _ _ hp3))
          (fun _ _ _ _ _ r ⟨t, e, h⟩ => ⟨t, e, fun q hq => let ⟨u, h1, h2⟩ := h q hq; ⟨u, r _ _ h1, r _ _ h2⟩⟩) (fun _ _ _ _ _ _ hDa ⟨t, e, h⟩ => ⟨t, e, fun q hq => by
            obtain ⟨u, h1, h2⟩ := h q hq
            exact ⟨u, by rw [upd_ne (ne_of h1 hDa (by intro h; cases h))]; exact h1, by rw [upd_ne (ne_of h2 hDa (by intro h; cases h))]; exact h2⟩⟩) (fun i x H4 H4' acc R hi r hDa hy hR => ?_) (fun ys H4 hly hg r4 hDs => ?_)
        · obtain ⟨rfl, e⟩ := hy
          have hil : i < L.length := by rw [← hlen]; exact hi
          obtain ⟨q, hq⟩ : ∃ q, L[i]? = some q := ⟨_, List.getElem?_eq_getElem hil⟩
          obtain ⟨a, ea, hat⟩ := (ha3.same r).get hq
          rw [refs_get ea] at e
          obtain rfl := Option.some.inj e
          refine ⟨rfl, _, rfl, _, rfl, _, rfl, d, _, rfl, .inr ⟨_, kI q.1, a, .inl (r _ _ hd3), rfl, by rw [kI_tI]; exact hat, (tK_some mk hW.nd (List.mem_of_getElem? hq)).symm⟩, (by show 2 ≤ sizeLine; decide), fun t ht => hR _ _ (sm_new ht) ⟨t, rfl, fun q' h => by rw [hq] at h; cases h; exact ⟨a, upd_same, sm_new ht _ _ hat⟩⟩⟩
        · obtain ⟨ps, rfl⟩ := refs_of fun j y e => let ⟨t, e', _⟩ := hg j y e; ⟨t, e'⟩
          refine k D ps H4 (s3.trans r4) (s3.free hD) hDs ⟨?_, fun i a q h1 h2 => ?_⟩
          · rw [← hO, ← hlen, ← hly, List.length_map]
          · rw [← hO] at h2
            obtain ⟨t, e, h⟩ := hg i (.ref a) (refs_get h1)
            cases e
            exact h q h2
      | false =>
      refine iteB rfl ?_
      have hO' : UW.outG lead isl sg lastG (N + 1 - (at_ + 1)) (at_ + 1) (UW.innG lead isl t r 0 sg L) = walkG lead isl sg N b := by
        rw [← hO, hn', show (N + 1) - (at_ + 1) = n' by omega, outG_some htr (by rw [hlo]; exact hil)]
      refine ⟨fun σ' H' => ∃ (L' : WT) (as : List Addr) (s7 s8 s9 : Option V), σ' = [some (.str (S sg)), some (.ref pb), some (.ref gl), some (.ref gi), some (.ref p), some (.ref d), some (.int ((at_ + 1 : Nat) : Int)), s7, s8, s9, none] ∧
        Same H H' ∧ H' p = some (.lst (as.map V.ref)) ∧ AtT H' as L' ∧ H' d = some (.dT (tK kI L')) ∧ TG Th L' ∧ 0 < L'.length ∧ UW.outG lead isl sg lastG (N + 1 - (at_ + 1)) (at_ + 1) L' = walkG lead isl sg N b,
        fun σ' H' ⟨L', as, s7, s8, s9, a1, a2, a3, a4, a5, a6, a7, a8⟩ => ⟨(N + 1) - (at_ + 1), by omega, L', as, at_ + 1, s7, s8, s9, rfl, by omega, a1, a2, a3, a4, a5, a6, a7, a8⟩, ?_⟩
      have htN : Th t := hW.mem _ (List.mem_of_getElem? htr)
      refine ⟨_, rfl, .str (S sg), .txt (S sg), rfl, rfl, trivial, for_it (walk_enumX (K := K) (S := .txt (S sg)) (xs := sg.map fun c => V.str (S [c]))) (fun i σ H' => ∃ (L' : WT) (as : List Addr) (s7 s8 s9 : Option V), σ = [some (.str (S sg)), some (.ref pb), some (.ref gl), some (.ref gi), some (.ref p), some (.ref d), some (.int (at_ : Nat)), s7, s8, s9, none] ∧
        Same H H' ∧ H' p = some (.lst (as.map V.ref)) ∧ AtT H' as L' ∧ H' d = some (.dT (tK kI L')) ∧ TG Th L' ∧ 0 < L'.length ∧ L'[at_]? = some (t, r) ∧ UW.innG lead isl t r i (sg.drop i) L' = UW.innG lead isl t r 0 sg L)
        ⟨L, as, _, _, _, rfl, s3, hp3, ha3, hd3, hW, hL0, htr, rfl⟩ (fun _ _ _ _ _ => by show (sg.map fun c => V.str (S [c])) = _; simp [S]) ?_ ?_⟩
      · rintro i x σ H4 H4' hi ⟨L', as, s7, s8, s9, rfl, s4, hp4, ha4, hd4, hW4, hL4, htr4, hinn⟩ ⟨T, x1, x2, rfl, hT, rfl, e1, e2⟩
        obtain rfl : V.int (i : Nat) = x1 := Option.some.inj e1
        have e2 : (sg.map fun c => V.str (S [c]))[i]? = some x2 := e2
        rw [List.getElem?_map] at e2
        rw [List.length_map] at hi
        have hci : sg[i]? = some sg[i] := List.getElem?_eq_getElem hi
        generalize hcc : sg[i] = c at hci
        rw [hci] at e2
        obtain rfl : V.str (S [c]) = x2 := Option.some.inj e2
        have hdrop : sg.drop i = c :: sg.drop (i + 1) := by rw [List.drop_eq_getElem_cons hi, hcc]
        have sT : Same H4 (upd H4 T (.tup [.int (i : Nat), .str (S [c])])) := sm_new hT
        refine ⟨T, _, rfl, .inl (.inl upd_same), rfl, _, _, rfl, _, _, rfl, rfl, ?_⟩
        generalize hH5 : upd H4 T (.tup [.int (i : Nat), .str (S [c])]) = H5 at sT
        clear hH5
        have s5 := s4.trans sT
        have hp5 := sT _ _ hp4
        have hd5 := sT _ _ hd4
        have ha5 := ha4.same sT
        obtain ⟨a5, ea5, ha5t⟩ := ha5.get htr4
        have htl5 := stl _ _ s5 htl
        refine ⟨rfl, htl5, ?_⟩
        refine ⟨_, rfl, _, rfl, p, as.map V.ref, at_, .ref a5, rfl, rfl, SqL.of hp5, at_of rfl (refs_get ea5), _, rfl, htl5, a5, t, i, rfl, ha5t, htN, hi, fun u H6 h6 hu6 => ?_⟩
        have s6 := s5.trans h6
        have hp6 := h6 _ _ hp5
        have hd6 := h6 _ _ hd5
        have ha6 := ha5.same h6
        have ha5t6 := h6 _ _ ha5t
        have hfN := hlead t i htN hi
        generalize hf : lead t i = f at hfN hu6
        have ek : H6 u = some (.tup ((kI f).map kV)) := by rw [kI_tI]; exact hu6
        refine ⟨_, rfl, _, rfl, d, valV (tK kI L') (kI f), rfl, .inr ⟨_, _, u, .inl hd6, rfl, ek, rfl⟩, _, rfl, ?_⟩
        by_cases hin : f ∈ L'.map (·.1)
        · obtain ⟨⟨f', rf⟩, hmem, rfl⟩ := List.mem_map.mp hin
          rw [tK_some mk hW4.nd hmem]
          refine iteN rfl ?_
          refine ⟨L', as, _, _, _, rfl, s6, hp6, ha6, hd6, hW4, hL4, htr4, ?_⟩
          rw [← hinn, hdrop, innG_in (by rw [hf]; exact hin)]
        · rw [tK_none mk hin]
          refine iteB rfl ?_
          have hrl := hW4.rl _ (List.mem_of_getElem? htr4)
          have hLN4 := hW4.len hN
          refine ⟨_, rfl, _, rfl, _, rfl, p, as.map V.ref, at_, .ref a5, rfl, rfl, SqL.of hp6, at_of rfl (refs_get ea5), d, .str (S r), rfl, .inr ⟨_, kI t, a5, .inl hd6, rfl, by rw [kI_tI]; exact ha5t6, (tK_some mk hW4.nd (List.mem_of_getElem? htr4)).symm⟩, ?_⟩
          have hr2 : r.length < L'.length := hrl
          refine ⟨_, rfl, S r, S [c], rfl, rfl, by rw [S_len, S_len]; exact sz (m := 1000) (by simp; omega) (by decide), ?_⟩
          refine ⟨_, rfl, _, rfl, d, _, rfl, DPut.t (k := kI f) hd6 ek (by show (tK kI L').length < sizeLine; rw [tK_len]; exact small1000 (by omega)), ?_⟩
          rw [S_cat, putK_tK mk hin]
          have s7' : Same H (upd H6 d (.dT (tK kI (L' ++ [(f, r ++ [c])])))) := sm_put s6 hd0
          have hp7 : (upd H6 d (.dT (tK kI (L' ++ [(f, r ++ [c])])))) p = some (.lst (as.map V.ref)) := by rw [upd_ne hpd]; exact hp6
          refine ⟨_, rfl, .inl ⟨rfl, _, SqL.of hp7⟩, _, rfl, p, as.map V.ref, _, rfl, rfl, hp7, by rw [List.length_map, ha6.1]; exact small1000 (by omega), ?_⟩
          have evV : as.map V.ref ++ [V.ref u] = (as ++ [u]).map V.ref := by rw [List.map_append]; rfl
          rw [evV]
          have hW5 : TG Th (L' ++ [(f, r ++ [c])]) := hW4.put hfN hin (by rw [List.length_append, List.length_singleton]; exact hr2)
          have htr5 : (L' ++ [(f, r ++ [c])])[at_]? = some (t, r) := by rw [List.getElem?_append_left (List.getElem?_eq_some_iff.mp htr4).1]; exact htr4
          have hL5p : 0 < (L' ++ [(f, r ++ [c])]).length := by rw [List.length_append]; exact Nat.lt_add_left _ Nat.zero_lt_one
          have s8' : Same H (upd (upd H6 d (.dT (tK kI (L' ++ [(f, r ++ [c])])))) p (.lst ((as ++ [u]).map V.ref))) := sm_put s7' hp
          have hp8 : (upd (upd H6 d (.dT (tK kI (L' ++ [(f, r ++ [c])])))) p (.lst ((as ++ [u]).map V.ref))) p = some (.lst ((as ++ [u]).map V.ref)) := upd_same
          have hd8 : (upd (upd H6 d (.dT (tK kI (L' ++ [(f, r ++ [c])])))) p (.lst ((as ++ [u]).map V.ref))) d = some (.dT (tK kI (L' ++ [(f, r ++ [c])]))) := by rw [upd_ne hpd.symm, upd_same]
          have ha8 : AtT (upd (upd H6 d (.dT (tK kI (L' ++ [(f, r ++ [c])])))) p (.lst ((as ++ [u]).map V.ref))) (as ++ [u]) (L' ++ [(f, r ++ [c])]) :=
            (((ha6.put (r := r ++ [c]) hu6).upd (fun _ z => by rw [hd6] at z; cases z)).upd (fun _ z => by rw [hp7] at z; cases z))
          generalize upd (upd H6 d (.dT (tK kI (L' ++ [(f, r ++ [c])])))) p (.lst ((as ++ [u]).map V.ref)) = H8 at s8' hp8 hd8 ha8 ⊢
          have hti8 := sti _ _ s8' hti
          have hu8 : H8 u = some (.tup (tI f)) := by
            have e2 : (as ++ [u])[as.length]? = some u := by rw [List.getElem?_append_right (Nat.le_refl _)]; simp
            have e3 : (L' ++ [(f, r ++ [c])])[as.length]? = some (f, r ++ [c]) := by rw [ha6.1, List.getElem?_append_right (Nat.le_refl _)]; simp
            exact ha8.2 as.length u (f, r ++ [c]) e2 e3
          refine ⟨rfl, hti8, _, rfl, hti8, u, f, rfl, hu8, hfN, fun H9 h9 => ?_⟩
          refine ⟨_, rfl, ?_⟩
          cases hif : isl f with
          | true =>
            refine iteB rfl ?_
            refine ⟨_, rfl, _, _, rfl, rfl, ?_⟩
            refine ⟨_, as ++ [u], _, _, _, rfl, s8'.trans h9, h9 _ _ hp8, ha8.same h9, h9 _ _ hd8, hW5, hL5p, ?_⟩
            rw [← hO', ← hinn, hdrop, innG_hit (by rw [hf]; exact hin) (by rw [hf]; exact hif), hf]
          | false =>
            refine iteN rfl ?_
            refine ⟨_, as ++ [u], _, _, _, rfl, s8'.trans h9, h9 _ _ hp8, ha8.same h9, h9 _ _ hd8, hW5, hL5p, htr5, ?_⟩
            rw [← hinn, hdrop, innG_new (by rw [hf]; exact hin) (by rw [hf]; exact hif), hf]
      · rintro σ H4 ⟨L', as, s7, s8, s9, rfl, s4, hp4, ha4, hd4, hW4, hL4, htr4, hinn⟩
        have hend : L' = UW.innG lead isl t r 0 sg L := by
          rw [← hinn, List.length_map, List.drop_length]; rfl
        refine ⟨_, rfl, _, _, rfl, rfl, ?_⟩
        exact ⟨L', as, _, _, _, rfl, s4, hp4, ha4, hd4, hW4, hL4, by rw [hend]; exact hO'⟩
    · have hal : L.length ≤ at_ := by simp only [decide_eq_true_eq] at hc; omega
      rw [outG_none hal] at hO
      refine ⟨_, rfl, p, rfl, ⟨_, SqL.of hp2⟩, fun D hD => ?_⟩
      refine lc_keepH keep_same (walk_list (K := K) (a := p) (xs := as.map V.ref)) hD (by rw [hlen]; exact small1000 (by omega)) (fun j y H => ∃ t, y = .ref t ∧ ∀ q, L[j]? = some q → ∃ u, H t = some (.tup [.ref u, .str (S q.2)]) ∧ H u = some (.tup (tI q.1))) (fun H r => SqL.of (r _ _ hp2))
        (fun _ _ _ _ _ r ⟨t, e, h⟩ => ⟨t, e, fun q hq => let ⟨u, h1, h2⟩ := h q hq; ⟨u, r _ _ h1, r _ _ h2⟩⟩) (fun _ _ _ _ _ _ hDa ⟨t, e, h⟩ => ⟨t, e, fun q hq => by
          obtain ⟨u, h1, h2⟩ := h q hq
          exact ⟨u, by rw [upd_ne (ne_of h1 hDa (by intro h; cases h))]; exact h1, by rw [upd_ne (ne_of h2 hDa (by intro h; cases h))]; exact h2⟩⟩) (fun i x H4 H4' acc R hi r hDa hy hR => ?_) (fun ys H4 hly hg r4 hDs => ?_)
      · obtain ⟨rfl, e⟩ := hy
        have hil : i < L.length := by rw [← hlen]; exact hi
        obtain ⟨q, hq⟩ : ∃ q, L[i]? = some q := ⟨_, List.getElem?_eq_getElem hil⟩
        obtain ⟨a, ea, hat⟩ := (ha2.same r).get hq
        rw [refs_get ea] at e
        obtain rfl := Option.some.inj e
        refine ⟨rfl, _, rfl, _, rfl, _, rfl, d, _, rfl, .inr ⟨_, kI q.1, a, .inl (r _ _ hd2), rfl, by rw [kI_tI]; exact hat, (tK_some mk hW.nd (List.mem_of_getElem? hq)).symm⟩, (by show 2 ≤ sizeLine; decide), fun t ht => hR _ _ (sm_new ht) ⟨t, rfl, fun q' h => by rw [hq] at h; cases h; exact ⟨a, upd_same, sm_new ht _ _ hat⟩⟩⟩
      · obtain ⟨ps, rfl⟩ := refs_of fun j y e => let ⟨t, e', _⟩ := hg j y e; ⟨t, e'⟩
        refine k D ps H4 (s2.trans r4) (s2.free hD) hDs ⟨?_, fun i a q h1 h2 => ?_⟩
        · rw [← hO, ← hlen, ← hly, List.length_map]
        · rw [← hO] at h2
          obtain ⟨t, e, h⟩ := hg i (.ref a) (refs_get h1)
          cases e
          exact h q h2
end
end Toy
set_option maxHeartbeats 4000000
namespace Toy
open PySem L2 C8 SX LX
section
variable {P : Program} {w : World} {K : PySem.W.Frag} {mg : Str → Option Value} {base : Heap}
def foundG (isl : List Nat → Bool) (L : WT) : Option (List Nat) := if isl (lastG L) = true then some (L.getLast?.getD ([], [])).2 else none
def optV : Option (List Nat) → V
  | some r => .str (S r)
  | none => .non
abbrev s_least : Stmt := top 19
abbrev n_least : List Str := ["signs", "begin", "lead", "is_good", "thing", "row"]
theorem sc_least : FnScope n_least ["signs", "begin", "lead", "is_good"] (fnScope s_least) := fnScope_by (by decide +kernel)
def spLeast (Th : List Nat → Prop) (N : Nat) (gl gi : Addr) (trl tri : Hp → Prop) (lead : List Nat → Nat → List Nat) (isl : List Nat → Bool) (sg : List Nat) : Sp := fun vs H Q _ => ∃ (pb : Addr) (b : List Nat), vs = [.str (S sg), .ref pb, .ref gl, .ref gi] ∧ H pb = some (.tup (tI b)) ∧ Th b ∧ trl H ∧ tri H ∧
  ∀ (H' : Hp), Same H H' → Q (optV (foundG isl (walkG lead isl sg N b))) H'
theorem walkG_ne {Th : List Nat → Prop} {lead : List Nat → Nat → List Nat} {isl : List Nat → Bool} {sg : List Nat} {N : Nat} {b : List Nat} (h : TG Th (walkG lead isl sg N b)) (hb : (walkG lead isl sg N b) ≠ []) : ∃ q, (walkG lead isl sg N b)[(walkG lead isl sg N b).length - 1]? = some q :=
  ⟨_, List.getElem?_eq_getElem (by have := List.length_pos_iff.mpr hb; omega)⟩
theorem innG_nil {lead : List Nat → Nat → List Nat} {isl : List Nat → Bool} {t r : List Nat} : ∀ (cs : List Nat) (i : Nat) (L : WT), L ≠ [] → UW.innG lead isl t r i cs L ≠ []
  | [], _, L, h => h
  | c :: cs, i, L, h => by
    by_cases hin : lead t i ∈ L.map (·.1)
    · rw [innG_in hin]; exact innG_nil cs _ L h
    · cases e : isl (lead t i) with
      | true => rw [innG_hit hin e]; simp
      | false => rw [innG_new hin e]; exact innG_nil cs _ _ (by simp)
theorem outG_nil {lead : List Nat → Nat → List Nat} {isl : List Nat → Bool} {sg : List Nat} : ∀ (k at_ : Nat) (L : WT), L ≠ [] → UW.outG lead isl sg lastG k at_ L ≠ []
  | 0, _, L, h => h
  | k + 1, at_, L, h => by
    cases e : L[at_]? with
    | none => rw [outG_none (by rw [List.getElem?_eq_none_iff] at e; exact e)]; exact h
    | some q =>
      obtain ⟨t, r⟩ := q
      cases el : isl (lastG L) with
      | true => rw [outG_last el]; exact h
      | false => rw [outG_some e el]; exact outG_nil k _ _ (innG_nil _ _ _ h)
theorem CV.mono {j k : Nat} {g : Addr} {tr : Hp → Prop} {sp : Sp} (c : CV P w K mg base j g tr sp) (h : j ≤ k) : CV P w K mg base k g tr sp := by
  rcases c with ⟨fd, ps, F, kept, bd⟩ | ⟨F, ps, fr, ws, nsp, N, hsp, B, htr⟩
  · exact .inl ⟨fd, ps, F.mono h, kept, bd⟩
  · exact .inr ⟨F, ps, fr, ws, nsp, N.mono h, hsp, B, htr⟩
theorem ok_least {Th : List Nat → Prop} {N : Nat} {isl : List Nat → Bool} {kl : Nat} {gl gi : Addr} {trl tri : Hp → Prop} {lead : List Nat → Nat → List Nat} {sg : List Nat} (T : BT mg) (hlead : ∀ t i, Th t → i < sg.length → Th (lead t i)) (c_is_good : CV P w K mg base kl gi tri (spIG Th isl)) (sti : ∀ H H', Same H H' → tri H → tri H')
    (c_until : Cal P w K mg base kl "_walked_until" (spUntilG Th N gl gi trl tri lead isl sg) [])
    {f : Addr} {fd : FuncData} (F : Def K mg "least_way" s_least f fd) (b : Binds K fd ["signs", "begin", "lead", "is_good"] []) : Cal P w K mg base (kl + 1) "least_way" (spLeast Th N gl gi trl tri lead isl sg) [] := by
  refine cal0 F b .nil sc_least (fun vs H Q E h => ?_) (fun cdv A outer s H vs Q E hr h => ?_)
  · obtain ⟨pb, b, rfl, _⟩ := h; rfl
  · obtain ⟨pb, b, rfl, hb, hT, htl, hti, k⟩ := h
    refine ⟨_, (pss_cons (ps_asg (pe_ix (ixl K) (pe_c c_until hr (by first | decide | omega) (by rfl) (pa_cons (pv 0) (pa_cons (pv 1) (pa_cons (pv 2) (pa_cons (pv 3) pa_nil))))) (pe_un un_neg pe_int) (fun _ _ => rfl)) (tupK K 2 (pgs_cons (pg_name (i := 4) sc_least.nd rfl (.inl rfl)) (pgs_cons (pg_name (i := 5) sc_least.nd rfl (.inl rfl)) pgs_nil))))
      (pss_one (ps_ret (pe_ifExp (pt_val (pe_callV (i := 3) c_is_good hr (Nat.le_refl _) rfl (.inl rfl) (pa_cons (pv 4) pa_nil))) (pv 5) pe_non))
      )), ?_⟩
    have hW : TG Th (walkG lead isl sg N b) := walkG_tg hT hlead
    obtain ⟨q, hq⟩ := walkG_ne hW (outG_nil _ _ _ (by simp))
    have hlo : lastG (walkG lead isl sg N b) = q.1 := lastG_of hq
    have hro : ((walkG lead isl sg N b).getLast?.getD ([], [])).2 = q.2 := by rw [List.getLast?_eq_getElem?, hq]; rfl
    unfold foundG at k
    rw [hlo, hro] at k
    refine ⟨_, rfl, _, rfl, _, rfl, _, rfl, pb, b, rfl, hb, hT, htl, hti, fun p ps H1 s1 n1 hp1 hps => ?_⟩
    have hlen : (ps.map V.ref).length = (walkG lead isl sg N b).length := by rw [List.length_map, hps.1]
    have hpos : 0 < (walkG lead isl sg N b).length := by have := (List.getElem?_eq_some_iff.mp hq).1; omega
    obtain ⟨a, ha⟩ : ∃ a, ps[(walkG lead isl sg N b).length - 1]? = some a := ⟨_, List.getElem?_eq_getElem (by rw [hps.1]; omega)⟩
    obtain ⟨u, h1, h2⟩ := hps.2 _ a q ha hq
    refine ⟨_, rfl, p, ps.map V.ref, -1, .ref a, rfl, rfl, SqL.of hp1, at_neg (by rw [hlen]; exact hpos) (by rw [hlen]; exact refs_get ha), ?_⟩
    refine ⟨a, _, rfl, .inl (.inl h1), rfl, _, _, rfl, _, _, rfl, rfl, rfl, ?_⟩
    have ht1 := sti _ _ s1 hti
    refine ⟨ht1, _, rfl, ht1, u, q.1, rfl, h2, hW.mem _ (List.mem_of_getElem? hq), fun H2 s2 => ?_⟩
    cases e : isl q.1 with
    | true =>
      refine ⟨true, rfl, iteT ⟨_, rfl, ?_⟩⟩
      rw [e] at k
      exact k H2 (s1.trans s2)
    | false =>
      refine ⟨false, rfl, iteN rfl ?_⟩
      rw [e] at k
      exact k H2 (s1.trans s2)
end
end Toy
set_option maxHeartbeats 1000000
namespace Toy
open UW
def ixs (sg v : List Nat) : List Nat := v.map fun c => sg.idxOf c
theorem ixs_app (sg u v : List Nat) : ixs sg (u ++ v) = ixs sg u ++ ixs sg v := List.map_append
theorem ixs_len (sg v : List Nat) : (ixs sg v).length = v.length := List.length_map ..
theorem lt_app1 : ∀ {u : List Nat} {a b : Nat}, a < b → u ++ [a] < u ++ [b]
  | [], a, b, h => List.cons_lt_cons_iff.mpr (.inl h)
  | x :: u, a, b, h => List.cons_lt_cons_iff.mpr (.inr ⟨rfl, lt_app1 h⟩)
theorem lt_app2 : ∀ {u v p q : List Nat}, u.length = v.length → u < v → u ++ p < v ++ q
  | [], [], p, q, _, h => absurd h (by simp)
  | x :: u, y :: v, p, q, hl, h => by
    rcases List.cons_lt_cons_iff.mp h with h | ⟨h1, h2⟩
    · exact List.cons_lt_cons_iff.mpr (.inl h)
    · exact List.cons_lt_cons_iff.mpr (.inr ⟨h1, lt_app2 (by simpa using hl) h2⟩)
  | [], y :: v, _, _, hl, _ => by simp at hl
  | x :: u, [], _, _, hl, _ => by simp at hl
theorem pw_idx {sg : List Nat} (nd : sg.Nodup) : sg.Pairwise fun c d => sg.idxOf c < sg.idxOf d := by
  rw [List.pairwise_iff_getElem]
  intro i j hi hj hij
  rw [nd.idxOf_getElem i hi, nd.idxOf_getElem j hj]
  exact hij
theorem level_sorted {sg : List Nat} (nd : sg.Nodup) : ∀ k, (level sg k).Pairwise fun a b => ixs sg a < ixs sg b
  | 0 => List.pairwise_singleton _ _
  | k + 1 => by
    show ((level sg k).flatMap fun r => sg.map fun c => r ++ [c]).Pairwise _
    rw [List.pairwise_flatMap]
    refine ⟨fun r _ => ?_, ?_⟩
    · rw [List.pairwise_map]
      refine (pw_idx nd).imp fun h => ?_
      rw [ixs_app, ixs_app]
      exact lt_app1 h
    · have ih := level_sorted nd k
      rw [List.pairwise_iff_getElem] at ih ⊢
      intro i j hi hj hij x hx y hy
      obtain ⟨c, _, rfl⟩ := List.mem_map.mp hx
      obtain ⟨d, _, rfl⟩ := List.mem_map.mp hy
      rw [ixs_app, ixs_app]
      refine lt_app2 ?_ (ih i j hi hj hij)
      rw [ixs_len, ixs_len, (level_row (List.getElem_mem hi)).1, (level_row (List.getElem_mem hj)).1]
theorem upto_sorted {sg : List Nat} (nd : sg.Nodup) : ∀ k, (upto sg k).Pairwise fun a b => sl (ixs sg a) (ixs sg b)
  | 0 => List.pairwise_singleton _ _
  | k + 1 => by
    show (upto sg k ++ level sg (k + 1)).Pairwise _
    rw [List.pairwise_append]
    refine ⟨upto_sorted nd k, ?_, fun a ha b hb => ?_⟩
    · have h := level_sorted nd (k + 1)
      rw [List.pairwise_iff_getElem] at h ⊢
      intro i j hi hj hij
      exact .inr ⟨by rw [ixs_len, ixs_len, (level_row (List.getElem_mem hi)).1, (level_row (List.getElem_mem hj)).1], h i j hi hj hij⟩
    · refine .inl ?_
      rw [ixs_len, ixs_len, (level_row hb).1]
      exact Nat.lt_succ_of_le (upto_row ha).1
theorem mem_level {sg : List Nat} : ∀ (n : Nat) (v : List Nat), v.length = n → Ov sg v → v ∈ level sg n
  | 0, v, hl, _ => by rw [List.length_eq_zero_iff.mp hl]; exact List.mem_cons_self
  | n + 1, v, hl, ho => by
    rcases List.eq_nil_or_concat v with rfl | ⟨u, c, rfl⟩
    · simp at hl
    · rw [List.concat_eq_append] at hl ho ⊢
      refine List.mem_flatMap.mpr ⟨u, mem_level n u (by simpa using hl) fun d hd => ho d (List.mem_append_left _ hd), List.mem_map.mpr ⟨c, ho c (List.mem_append_right _ List.mem_cons_self), rfl⟩⟩
theorem mem_upto {sg v : List Nat} (ho : Ov sg v) : ∀ {k : Nat}, v.length ≤ k → v ∈ upto sg k
  | 0, h => by rw [List.length_eq_zero_iff.mp (Nat.le_zero.mp h)]; exact List.mem_cons_self
  | k + 1, h => by
    rcases Nat.lt_or_ge k v.length with h1 | h1
    · exact List.mem_append_right _ (mem_level (k + 1) v (by omega) ho)
    · exact List.mem_append_left _ (mem_upto ho h1)
theorem rw_ixs {sg v : List Nat} : Rw sg.length (ixs sg v) ↔ Ov sg v := by
  constructor
  · intro h c hc
    have := h _ (List.mem_map.mpr ⟨c, hc, rfl⟩)
    exact List.idxOf_lt_length_iff.mp this
  · intro h d hd
    obtain ⟨c, hc, rfl⟩ := List.mem_map.mp hd
    exact List.idxOf_lt_length_iff.mpr (h c hc)
theorem ixs_inj {sg : List Nat} : ∀ {u v : List Nat}, Ov sg u → Ov sg v → ixs sg u = ixs sg v → u = v
  | [], [], _, _, _ => rfl
  | [], _ :: _, _, _, h => by cases h
  | _ :: _, [], _, _, h => by cases h
  | a :: u, b :: v, hu, hv, h => by
    unfold ixs at h
    rw [List.map_cons, List.map_cons, List.cons.injEq] at h
    have h1 := List.idxOf_lt_length_iff.mpr (hu a List.mem_cons_self)
    have e : a = b := by
      have e1 : sg[sg.idxOf a]? = some a := by rw [List.getElem?_eq_getElem h1, List.getElem_idxOf]
      have h2 := List.idxOf_lt_length_iff.mpr (hv b List.mem_cons_self)
      have e2 : sg[sg.idxOf b]? = some b := by rw [List.getElem?_eq_getElem h2, List.getElem_idxOf]
      rw [h.1, e2] at e1
      exact (Option.some.inj e1).symm
    rw [e, ixs_inj (fun c hc => hu c (List.mem_cons_of_mem _ hc)) (fun c hc => hv c (List.mem_cons_of_mem _ hc)) h.2]
theorem ixs_of {sg : List Nat} (nd : sg.Nodup) {w : List Nat} (h : Rw sg.length w) : ∃ v, Ov sg v ∧ ixs sg v = w := by
  refine ⟨w.map fun i => sg.getD i 0, fun c hc => ?_, ?_⟩
  · obtain ⟨i, hi, rfl⟩ := List.mem_map.mp hc
    rw [List.getD_eq_getElem?_getD, List.getElem?_eq_getElem (h i hi)]
    exact List.getElem_mem _
  · unfold ixs
    rw [List.map_map]
    conv => rhs; rw [← List.map_id w]
    refine List.map_congr_left fun i hi => ?_
    show sg.idxOf (sg.getD i 0) = i
    rw [List.getD_eq_getElem?_getD, List.getElem?_eq_getElem (h i hi)]
    exact nd.idxOf_getElem i (h i hi)
theorem not_lt_eq : ∀ {u v : List Nat}, u.length = v.length → ¬ u < v → ¬ v < u → u = v
  | [], [], _, _, _ => rfl
  | [], _ :: _, h, _, _ => by simp at h
  | _ :: _, [], h, _, _ => by simp at h
  | a :: u, b :: v, hl, h1, h2 => by
    have e : a = b := by
      rcases Nat.lt_trichotomy a b with h | h | h
      · exact absurd (List.cons_lt_cons_iff.mpr (.inl h)) h1
      · exact h
      · exact absurd (List.cons_lt_cons_iff.mpr (.inl h)) h2
    subst e
    rw [not_lt_eq (u := u) (v := v) (by simpa using hl) (fun h => h1 (List.cons_lt_cons_iff.mpr (.inr ⟨rfl, h⟩))) fun h => h2 (List.cons_lt_cons_iff.mpr (.inr ⟨rfl, h⟩))]
theorem sl_tri {u v : List Nat} (h1 : ¬ sl u v) (h2 : ¬ sl v u) : u = v := by
  have hl : u.length = v.length := by
    rcases Nat.lt_trichotomy u.length v.length with h | h | h
    · exact absurd (.inl h) h1
    · exact h
    · exact absurd (.inl h) h2
  exact not_lt_eq hl (fun h => h1 (.inr ⟨hl, h⟩)) fun h => h2 (.inr ⟨hl.symm, h⟩)
theorem sl_len {u v : List Nat} (h : sl u v) : u.length ≤ v.length := by
  rcases h with h | ⟨h, _⟩
  · exact Nat.le_of_lt h
  · exact Nat.le_of_eq h
section
variable {α : Type} [DecidableEq α] {lead : α → Nat → α} {isl : α → Bool} {sg : List Nat} {b : α}
def lastRow (isl : α → Bool) (L : List (α × List Nat)) : Option (List Nat) := match L[L.length - 1]? with
  | some p => if isl p.1 = true then some p.2 else none
  | none => none
theorem least_first (nd : sg.Nodup) {L : List (α × List Nat)} (h : Ends lead isl sg b L) (k : Nat) (h3 : (∀ w, Rw sg.length w → w.length ≤ k → isl (run lead b w) = false) → ∀ w, Rw sg.length w → isl (run lead b w) = false) :
    lastRow isl L = (upto sg k).find? fun v => isl (run lead b (ixs sg v)) := by
  unfold lastRow
  rcases h with h | ⟨hn, hne, h⟩
  · obtain ⟨p, hp, hl, hr, hw, hleast⟩ := h.least
    rw [hp]
    show (if isl p.1 = true then some p.2 else none) = _
    rw [if_pos hl]
    have hov : Ov sg p.2 := rw_ixs.mp hw
    have hlp : isl (run lead b (ixs sg p.2)) = true := by
      have : run lead b (ixs sg p.2) = p.1 := hr
      rw [this]; exact hl
    cases e : (upto sg k).find? fun v => isl (run lead b (ixs sg v)) with
    | none =>
      rw [List.find?_eq_none] at e
      have := h3 (fun w hw hlw => by
        obtain ⟨v, hv, rfl⟩ := ixs_of nd hw
        have := e v (mem_upto hv (by rw [ixs_len] at hlw; exact hlw))
        simpa using this) _ hw
      rw [show (p.2.map fun c => sg.idxOf c) = ixs sg p.2 from rfl, hlp] at this
      cases this
    | some v =>
      obtain ⟨hv, as, bs, happ, has⟩ := List.find?_eq_some_iff_append.mp e
      have hvm : v ∈ upto sg k := by rw [happ]; simp
      have n1 : ¬ sl (ixs sg v) (ixs sg p.2) := hleast _ (rw_ixs.mpr (upto_row hvm).2) hv
      have n2 : ¬ sl (ixs sg p.2) (ixs sg v) := fun hs => by
        have hm : p.2 ∈ upto sg k := mem_upto hov (by have := sl_len hs; rw [ixs_len, ixs_len] at this; exact Nat.le_trans this (upto_row hvm).1)
        have hpw := upto_sorted nd k
        rw [happ] at hm hpw
        rcases List.mem_append.mp hm with hm | hm
        · have := has _ hm
          rw [hlp] at this
          simp at this
        · rcases List.mem_cons.mp hm with hm | hm
          · rw [hm] at hs; exact sl_irr hs
          · rw [List.pairwise_append] at hpw
            exact n1 ((List.pairwise_cons.mp hpw.2.1).1 _ hm)
      rw [ixs_inj hov (upto_row hvm).2 (sl_tri n2 n1)]
  · cases e : L[L.length - 1]? with
    | none =>
      have := List.length_pos_iff.mpr hne
      rw [List.getElem?_eq_none_iff] at e
      omega
    | some p =>
      have := hn p (List.mem_of_getElem? e)
      show (if isl p.1 = true then some p.2 else none) = _
      rw [this, if_neg (by simp)]
      symm
      rw [List.find?_eq_none]
      intro v hv
      rw [h _ (rw_ixs.mpr (upto_row hv).2)]
      simp
end
end Toy
set_option maxHeartbeats 2000000
namespace LX
open PySem PySem.Spec PyProof.Rows L2 C8 SX NdefX
def CellO (c : Addr) (v : V) : HO := .ext fun h => ∃ u, RelV v u ∧ h.IsCell c (some u)
theorem cellO_ok {P : Program} {w : World} {H : Hp} {h : Heap} {c : Addr} {v : V} {u : Value} (r : RelV v u) (e : h.IsCell c (some u)) : ObjOk P w H h c (CellO c v) :=
  ⟨⟨u, r, e⟩, let ⟨o, ho, _⟩ := e; ⟨o, ho⟩, fun _ _ ⟨u', r', o, q, z⟩ k => ⟨u', r', o, k o q, z⟩⟩
theorem cellO_at {P : Program} {w : World} {H : Hp} {h : Heap} {c : Addr} {v : V} (x : HOk P w H h) (e : H c = some (CellO c v)) : ∃ u, RelV v u ∧ h.IsCell c (some u) := by
  have q : ObjOk P w H h c (.ext fun h => ∃ u, RelV v u ∧ h.IsCell c (some u)) := x c _ e
  exact q.1
theorem cellO_tup {c : Addr} {v : V} {xs : List V} : CellO c v ≠ .tup xs := fun z => by
  have z' : HO.ext _ = HO.tup xs := z
  cases z'
theorem cellO_own {c x : Addr} {v : V} : CellO c v ≠ .own x := fun z => by
  have z' : HO.ext _ = HO.own x := z
  cases z'
theorem cellO_frz {c : Addr} {v : V} {o : Obj} {u : HO} : CellO c v ≠ .frz o u := fun z => by
  have z' : HO.ext _ = HO.frz o u := z
  cases z'
theorem cellO_tbl {c : Addr} {v : V} {ps : Array Value} : CellO c v ≠ .tbl ps := fun z => by
  have z' : HO.ext _ = HO.tbl ps := z
  cases z'
theorem calE {P : Program} {w : World} {K : PySem.W.Frag} {mg : Str → Option Value} {base : Heap} {x y : Str} {st s0 : Stmt} {e0 : Expr} {p0 : Pos} {i : Nat} {f : Addr} {fd : FuncData} {N ps : List Str} {ds : List Value} {dvs : List V} {k : Nat} {sp : Sp} {cdv : Value} (F : C8.Def K mg x st f fd) (hc : fd.code = cdv) (b : Binds K fd ps ds) (d : Vals dvs ds) (S : FnScope N ps (C8.fnScope st)) (len : ∀ vs H Q E, sp vs H Q E → vs.length = ps.length)
    (hst : C8.fnBody st = [s0, .Return (some e0) p0]) (hi : N[i]? = some y) (hy : (C8.fnScope st).names.lookup y = some .cell)
    (hbody : ∀ (A : Around) (outer : List Env) (s : Shared) (H : Hp) (vs : List V) (Q : VK) (E : XK), Room k (A.deeper (envOfC x (C8.fnScope st) s.heap.objs.size f cdv)) → sp vs H Q E →
      ∃ t te, PS (cxOf C8.CX0 P w K mg base N x (C8.fnScope st) f cdv A outer s H E).nox s0 t ∧ PE (cxOf C8.CX0 P w K mg base N x (C8.fnScope st) f cdv A outer s H E).nox e0 te ∧
        t { nx := fun σ H' => te σ H' fun v H2 => ∃ w0, σ[i]? = some (some w0) ∧ ∀ c, (cellsFrom (s.heap.objs.size + 1) (C8.fnScope st).names []).lookup y = some c → H2 c = none → H c = none → Q v (upd H2 c (CellO c w0)), rt := fun _ _ => False } (start N vs) H) : C8.Cal P w K mg base (k + 1) x sp dvs := by
  refine ⟨f, fd, ps, ds, ?_, F.mgf, F.kp, b, d⟩
  obtain ⟨oc, od, dV, kV, doc, pm, an, cdv', ct, osl, rfl, lk, hcd⟩ := F.fn.ex
  obtain rfl : cdv' = cdv := hc
  refine ⟨len, fun A outer s H args us vs Q E hr e1 hb r hsp => ?_⟩
  have hl := len _ _ _ _ hsp
  have KX : K.In s.heap := e1.mod.kin.keeps fun b o e => (e1.bs b o e).1
  have lim : s.heap.NoLimit := e1.mod.nolimit.keeps fun b o e => (e1.bs b o e).1
  have hkind : ∀ y ∈ ps.zip us, (C8.fnScope st).names.lookup y.1 = some .local ∨ ((C8.fnScope st).names.lookup y.1 = some .cell ∧ ((cellsFrom (s.heap.objs.size + 1) (C8.fnScope st).names []).lookup y.1).isSome = true) := fun ⟨n, v⟩ hy => by
    rcases S.par n (List.of_mem_zip hy).1 with q | q
    · exact .inl q
    · exact .inr ⟨q, PySem.W.cellsFrom_some _ _ _ (.inl q)⟩
  refine codeAny_call_function hr.depth (KX _ _ lk) rfl S.co S.gen rfl (PySem.W.codeRec_of KX hcd) (hb _ _ _ _ ?_)
  refine wpAny_newFunctionEnv_cells S.kind hkind fun env he s1 xx => ?_
  subst he
  refine ⟨lim.keeps xx.toInCall.keep, codeAny_func ?_⟩
  obtain ⟨t, te, ht, hte, hq⟩ := hbody A outer s H vs Q E (hr.deeper _) hsp
  have I : Inv (cxOf C8.CX0 P w K mg base N x (C8.fnScope st) f cdv' A outer s H E) [] (start N vs) H s1 := inv_start S hr.hd e1 hl r xx
  obtain ⟨c0, hc0⟩ := cell_has (n := s.heap.objs.size + 1) hy
  have ht' : PS (cxOf C8.CX0 P w K mg base N x (C8.fnScope st) f cdv' A outer s H E) s0 t := ⟨fun pins s σ H D I hw => wpAny_mono (ht.run pins s σ H D (I.wish _) hw) (fun _ _ q => q.unwish) fun _ _ z => False.elim z⟩
  have hte' := hte.nox
  show wpAny _ _ (execs (C8.fnBody st) _) _ _ _
  rw [hst]
  refine wpAny_execs_cons (wpAny_mono (ht'.run [] s1 (start N vs) H _ I hq) (fun fl s' hs => ?_) fun e s' hs => hs)
  cases fl with
  | ret u =>
    obtain ⟨_, _, _, _, _, q⟩ := hs
    exact False.elim q
  | brk =>
    obtain ⟨_, _, _, q⟩ := hs
    exact False.elim q
  | cont =>
    obtain ⟨_, _, _, q⟩ := hs
    exact False.elim q
  | next =>
    obtain ⟨σ', H', J, q⟩ := hs
    refine wpAny_execs_cons (wpAny_Return_some (wpAny_mono (hte'.run [] s' σ' H' _ J q) (fun u s2 hu => ?_) fun e s' hs => hs))
    obtain ⟨v, H2, J2, rv, w0, hw, hQ⟩ := hu
    have hcN : H2 c0 = none := J2.freeC y c0 hc0
    have hge : s.heap.objs.size ≤ c0 := Nat.le_of_lt (xx.above y c0 (PySem.mem_of_lookup hc0))
    have hHc : H c0 = none := e1.hok.fresh hge
    have hsc : s.heap.get? c0 = none := Heap.get?_none_of_le hge
    obtain ⟨m, _, hloc⟩ := J2.loc
    obtain ⟨u0, ru, hlook⟩ := hloc i y w0 hi hw (.inr (.inl hy))
    have hcell : s2.heap.IsCell c0 (some u0) := by
      rcases hlook with ⟨hk, _⟩ | ⟨_, c, ec, hcell⟩
      · have hk : (C8.fnScope st).names.lookup y = some .local := hk
        rw [hy] at hk; cases hk
      · have ec : (cellsFrom (s.heap.objs.size + 1) (C8.fnScope st).names []).lookup y = some c := ec
        rw [hc0] at ec; cases ec
        exact hcell
    have B : Un (frs outer) [] H H2 s.heap s2.heap := J2.base
    have ne : ∀ b o, s.heap.get? b = some o → b ≠ c0 := fun b o e z => by rw [z, hsc] at e; cases e
    refine ⟨v, upd H2 c0 (CellO c0 w0), J2.os, J2.bare, ⟨B.keep, B.slot, fun b o e n hx => by rw [upd_ne (ne b o e)]; exact B.free b o e n hx, B.there, fun b xs e => ?_, fun b o u e => ?_, fun b ps e => ?_⟩, J2.hok.laidN (fun _ _ q => q) hcN (cellO_ok ru hcell), rv, hQ c0 hc0 hcN hHc⟩
    · rw [upd_ne (fun z => by rw [z, hHc] at e; cases e)]; exact B.tups b xs e
    · rw [upd_ne (fun z => by rw [z, hHc] at e; cases e)]; exact B.frzs b o u e
    · rw [upd_ne (fun z => by rw [z, hHc] at e; cases e)]; exact B.tbls b ps e
def tUpE (S : Addr → V → Sp → Prop) (t : TA) : TE := fun σ H Q => t σ H fun vs H1 => ∃ (c : Addr) (w0 : V) (sp : Sp), H1 c = some (CellO c w0) ∧ S c w0 sp ∧ sp vs (delH H1 c) (fun v H2 => H2 c = none → Q v (upd H2 c (CellO c w0))) C8.E0
theorem pe_cUpE {X : Cx} {k j : Nat} {g : Addr} {x y : Str} {p pos : Pos} {e : Expr} {es : List Expr} {t : TA} {S : Addr → V → Sp → Prop} (named : X.mg x = some (.ref g)) (kept : PySem.W.keepIn X.K (.ref g) = true)
    (hS : ∀ c w0 sp (base' : Heap), S c w0 sp → X.K.In base' → base'.Ns mainGlobals X.mg → BCells [(y, c)] [y] [some w0] base' → Cal X.prog X.w X.K X.mg base' k x sp []) (room : Room j X.A) (hk : k ≤ j) (hg : Gl X x) (ha : PA X (e :: es) t) (hdb : (x == ("__debug__" : Str)) = false := by decide)
    (he : starEach (e :: es) X.env = (false, eval e X.env) :: starEach es X.env := by rfl) (hpl : (backTo pos (starEach es X.env)).any (·.1) = false := by rfl) : PE X (.Call (.Name x p) (e :: es) [] pos) (tUpE S t) := by
  constructor
  intro pins s σ H Q I want
  refine wpAny_Call_Name_kw (ld_glob I hg named ?_ hdb)
  refine PySem.W.callWith_K (h₀ := X.base) I.ok.mod.kin kept (thn (ha.run pos pins s σ H _ I want) ?_) he hpl
  rintro us s1 ⟨vs, H1, I1, rel, c, w0, sp, ec, s0, q⟩
  refine ⟨I1.kIn, ?_⟩
  obtain ⟨u0, ru, hcell⟩ := cellO_at I1.hok ec
  have e0 := I1.env0
  have nfr : ∀ b ∈ frs X.stack, b ≠ c := fun b hb z => by
    have := e0.frf b hb
    rw [z, ec] at this; cases this
  have kk : ∀ b o, X.base.get? b = some o → (upB s1.heap X.base [c]).get? b = some o := fun b o e => upB_get (e0.bs b o e).1 (.inl (by rw [e]; rfl))
  obtain ⟨mb, b1, b2⟩ := e0.mod.blt
  have hdel : ∀ b, H1 b = none → delH H1 c b = none := fun b n => by
    by_cases z : b = c
    · rw [z]; exact delH_same
    · rw [delH_ne z]; exact n
  have hok2 : HOk X.prog X.w (delH H1 c) s1.heap := fun b u eb => by
    by_cases z : b = c
    · rw [z, delH_same] at eb; cases eb
    · rw [delH_ne z] at eb
      refine (I1.hok b u eb).stay (fun _ _ _ q => q) (fun d q => ?_) fun d xs q => ?_
      · rw [delH_ne (fun z => by rw [z, ec] at q; exact cellO_own (Option.some.inj q))]; exact q
      · rw [delH_ne (fun z => by rw [z, ec] at q; exact cellO_tup (Option.some.inj q))]; exact q
  have E1 : Env0 X.prog X.w X.K X.mg (upB s1.heap X.base [c]) X.A X.stack s1 (delH H1 c) := by
    refine ⟨e0.frames, ⟨fun b o e => kk b o (e0.mod.kin b o e), e0.mod.glob.keeps kk, ⟨mb, b1.keeps kk, b2⟩, e0.mod.nolimit.keeps kk⟩, fun b o e => ?_, Nat.le_of_eq (hidT_size _ _), funs_up e0.funs fun L hL hm => nfr L hL (List.mem_singleton.mp hm), fun b hb => hdel b (e0.frf b hb), hok2, e0.bare⟩
    obtain ⟨e1, n⟩ := of_upB e
    refine ⟨e1, ?_⟩
    rcases n with n | n
    · obtain ⟨o', q⟩ := Option.isSome_iff_exists.mp n
      exact hdel b (e0.bs b o' q).2
    · rw [List.mem_singleton.mp n]; exact delH_same
  have hcB : (upB s1.heap X.base [c]).IsCell c (some u0) := let ⟨o, h1, h2⟩ := hcell; ⟨o, upB_get h1 (.inr (List.mem_singleton.mpr rfl)), h2⟩
  have BC : BCells [(y, c)] [y] [some w0] (upB s1.heap X.base [c]) := by
    refine ⟨rfl, fun z c' e => ?_, fun a b c' h1 h2 => ?_, fun i z e => ?_⟩
    · have : c' = c := by
        by_cases hz : z = y
        · subst hz; rw [List.lookup_cons_self] at e; exact (Option.some.inj e).symm
        · rw [List.lookup_cons, beq_eq_false_iff_ne.mpr hz] at e; cases e
      subst this; exact ⟨_, hcB⟩
    · have one : ∀ z, [(y, c)].lookup z = some c' → z = y := fun z e => by
        by_cases hz : z = y
        · exact hz
        · rw [List.lookup_cons, beq_eq_false_iff_ne.mpr hz] at e; cases e
      rw [one a h1, one b h2]
    · cases i with
      | succ i => cases e
      | zero =>
        cases e
        exact ⟨c, List.lookup_cons_self .., fun v hv => by cases hv; exact ⟨u0, ru, hcB⟩⟩
  obtain ⟨f, fd, ps, ds, F, named', _, bd, dv⟩ := (hS c w0 sp _ s0 E1.mod.kin E1.mod.glob BC).ex
  rw [named] at named'
  cases named'
  cases dv
  have count : (us ++ []).length = ps.length := by rw [List.append_nil, ← rel.length]; exact F.len _ _ _ _ q
  have bs := bd s1 us I1.kIn count
  rw [List.append_nil] at bs
  refine wpAny_call (codeAny_mono (F.run X.A X.stack s1 (delH H1 c) ⟨us, []⟩ us vs (fun v H2 => H2 c = none → Q v (upd H2 c (CellO c w0))) C8.E0 (room.mono hk) E1 bs rel q) fun r t' got => ?_)
  match r, got with
  | .ok (.ret u), got =>
    obtain ⟨v, H', os, bare, un, hok, rv, qq⟩ := got
    obtain ⟨oc, hoc, hdc⟩ := hcell
    have hH' : H' c = none := un.free c oc hoc delH_same (fun z => nomatch z)
    have nc : c ∉ frs X.stack := fun z => nfr c z rfl
    have hc2 : t'.heap.IsCell c (some u0) := ⟨oc, un.keep c oc hoc delH_same nc (fun z => nomatch z), hdc⟩
    have nec : ∀ b, H1 b = none → b ≠ c := fun b n z => by rw [z, ec] at n; cases n
    refine I1.after ⟨v, upd H' c (CellO c w0), os, bare, ⟨fun b o h n => un.keep b o h (hdel b n), fun b o h n => un.slot b o h (hdel b n), fun b o h n hx => ?_, un.there, fun b xs h => ?_, fun b o u h => ?_, fun b ps h => ?_⟩, hok.laidN (fun _ _ q => q) hH' (cellO_ok ru hc2), rv, qq hH'⟩
    · rw [upd_ne (nec b n)]; exact un.free b o h (hdel b n) hx
    · have hb : b ≠ c := fun z => by rw [z, ec] at h; exact cellO_tup (Option.some.inj h)
      rw [upd_ne hb]; exact un.tups b xs (by rw [delH_ne hb]; exact h)
    · have hb : b ≠ c := fun z => by rw [z, ec] at h; exact cellO_frz (Option.some.inj h)
      rw [upd_ne hb]; exact un.frzs b o u (by rw [delH_ne hb]; exact h)
    · have hb : b ≠ c := fun z => by rw [z, ec] at h; exact cellO_tbl (Option.some.inj h)
      obtain ⟨more, e⟩ := un.tbls b ps (by rw [delH_ne hb]; exact h)
      exact ⟨more, by rw [upd_ne hb]; exact e⟩
end LX
set_option maxHeartbeats 2000000
namespace LX
open PySem PySem.Spec PyProof.Rows L2 C8 SX NdefX
def putC : List (Addr × V) → Hp → Hp
  | [], H => H
  | p :: l, H => upd (putC l H) p.1 (CellO p.1 p.2)
def delC : List Addr → Hp → Hp
  | [], H => H
  | c :: l, H => delH (delC l H) c
theorem putC_out {b : Addr} {H : Hp} : ∀ {l : List (Addr × V)}, (∀ p ∈ l, p.1 ≠ b) → putC l H b = H b
  | [], _ => rfl
  | p :: l, h => by
    show upd (putC l H) p.1 _ b = _
    rw [upd_ne (fun e => h p List.mem_cons_self e.symm), putC_out fun q hq => h q (List.mem_cons_of_mem _ hq)]
theorem putC_in {H : Hp} : ∀ {l : List (Addr × V)}, (l.map (·.1)).Nodup → ∀ p ∈ l, putC l H p.1 = some (CellO p.1 p.2)
  | q :: l, nd, p, hp => by
    rw [List.map_cons, List.nodup_cons] at nd
    show upd (putC l H) q.1 _ p.1 = _
    rcases List.mem_cons.mp hp with rfl | hp
    · exact upd_same
    · rw [upd_ne (fun e => nd.1 (by rw [← e]; exact List.mem_map.mpr ⟨p, hp, rfl⟩)), putC_in nd.2 p hp]
theorem delC_in {H : Hp} {b : Addr} : ∀ {l : List Addr}, b ∈ l → delC l H b = none
  | c :: l, h => by
    show delH (delC l H) c b = none
    by_cases e : b = c
    · rw [e]; exact delH_same
    · rw [delH_ne e]; exact delC_in ((List.mem_cons.mp h).resolve_left e)
theorem delC_out {H : Hp} {b : Addr} : ∀ {l : List Addr}, b ∉ l → delC l H b = H b
  | [], _ => rfl
  | c :: l, h => by
    show delH (delC l H) c b = H b
    rw [delH_ne (fun e => h (by rw [e]; exact List.mem_cons_self)), delC_out fun z => h (List.mem_cons_of_mem _ z)]
theorem delC_none {H : Hp} {b : Addr} {l : List Addr} (n : H b = none) : delC l H b = none := by
  by_cases e : b ∈ l
  · exact delC_in e
  · rw [delC_out e]; exact n
theorem delC_some {H : Hp} {b : Addr} {l : List Addr} {o : HO} (h : delC l H b = some o) : H b = some o ∧ b ∉ l := by
  by_cases e : b ∈ l
  · rw [delC_in e] at h; cases h
  · rw [delC_out e] at h; exact ⟨h, e⟩
theorem hok_putC {P : Program} {w : World} {H : Hp} {h : Heap} (x : HOk P w H h) : ∀ {l : List (Addr × V)}, (l.map (·.1)).Nodup → (∀ p ∈ l, H p.1 = none ∧ ∃ u, RelV p.2 u ∧ h.IsCell p.1 (some u)) → HOk P w (putC l H) h
  | [], _, _ => x
  | p :: l, nd, a => by
    rw [List.map_cons, List.nodup_cons] at nd
    obtain ⟨n, u, r, c⟩ := a p List.mem_cons_self
    have hn : putC l H p.1 = none := by
      rw [putC_out fun q hq e => nd.1 (by rw [← e]; exact List.mem_map.mpr ⟨q, hq, rfl⟩)]; exact n
    exact (hok_putC x nd.2 fun q hq => a q (List.mem_cons_of_mem _ hq)).laidN (fun _ _ q => q) hn (cellO_ok r c)
theorem un_putC {fs ex : List Addr} {H H2 : Hp} {h h' : Heap} (B : Un fs ex H H2 h h') {l : List (Addr × V)} (a : ∀ p ∈ l, h.get? p.1 = none ∧ H p.1 = none) : Un fs ex H (putC l H2) h h' := by
  have ng : ∀ b o, h.get? b = some o → ∀ p ∈ l, p.1 ≠ b := fun b o e p hp z => by rw [← z, (a p hp).1] at e; cases e
  have nh : ∀ b o, H b = some o → ∀ p ∈ l, p.1 ≠ b := fun b o e p hp z => by rw [← z, (a p hp).2] at e; cases e
  refine ⟨B.keep, B.slot, fun b o e n hx => by rw [putC_out (ng b o e)]; exact B.free b o e n hx, B.there, fun b xs e => ?_, fun b o u e => ?_, fun b ps e => ?_⟩
  · rw [putC_out (nh b _ e)]; exact B.tups b xs e
  · rw [putC_out (nh b _ e)]; exact B.frzs b o u e
  · rw [putC_out (nh b _ e)]; exact B.tbls b ps e
theorem un_back {fs ex : List Addr} {H H' : Hp} {h h' : Heap} {l : List (Addr × V)} (un : Un fs ex (delC (l.map (·.1)) H) H' h h') (a : ∀ p ∈ l, H p.1 = some (CellO p.1 p.2)) : Un fs ex H (putC l H') h h' := by
  have nn : ∀ b, H b = none → ∀ p ∈ l, p.1 ≠ b := fun b n p hp z => by rw [← z, a p hp] at n; cases n
  have nd : ∀ b o, H b = some o → (∀ w, o ≠ CellO b w) → b ∉ l.map (·.1) ∧ ∀ p ∈ l, p.1 ≠ b := fun b o e ne => by
    have k : ∀ p ∈ l, p.1 ≠ b := fun p hp z => by
      have q := a p hp
      rw [z, e] at q
      exact ne _ (Option.some.inj q)
    refine ⟨fun hm => ?_, k⟩
    obtain ⟨p, hp, z⟩ := List.mem_map.mp hm
    exact k p hp z
  refine ⟨fun b o h n => un.keep b o h (delC_none n), fun b o h n => un.slot b o h (delC_none n), fun b o h n hx => ?_, un.there, fun b xs h => ?_, fun b o u h => ?_, fun b ps h => ?_⟩
  · rw [putC_out (nn b n)]; exact un.free b o h (delC_none n) hx
  · obtain ⟨n1, n2⟩ := nd b _ h fun w z => cellO_tup z.symm
    rw [putC_out n2]; exact un.tups b xs (by rw [delC_out n1]; exact h)
  · obtain ⟨n1, n2⟩ := nd b _ h fun w z => cellO_frz z.symm
    rw [putC_out n2]; exact un.frzs b o u (by rw [delC_out n1]; exact h)
  · obtain ⟨n1, n2⟩ := nd b _ h fun w z => cellO_tbl z.symm
    obtain ⟨more, e⟩ := un.tbls b ps (by rw [delC_out n1]; exact h)
    exact ⟨more, by rw [putC_out n2]; exact e⟩
theorem cells_list {sc : Scope} {n : Nat} : ∀ (ys : List (Nat × Str)), (∀ q ∈ ys, sc.names.lookup q.2 = some .cell) → ∃ cs : List Addr, cs.length = ys.length ∧ ∀ (i : Nat) q c, ys[i]? = some q → cs[i]? = some c → (cellsFrom n sc.names []).lookup q.2 = some c
  | [], _ => ⟨[], rfl, fun i q c e _ => by cases e⟩
  | y :: ys, hy => by
    obtain ⟨cs, h1, h2⟩ := cells_list ys fun q hq => hy q (List.mem_cons_of_mem _ hq)
    obtain ⟨c0, hc0⟩ := cell_has (n := n) (hy y List.mem_cons_self)
    refine ⟨c0 :: cs, by rw [List.length_cons, List.length_cons, h1], fun i q c e1 e2 => ?_⟩
    cases i with
    | zero => cases e1; cases e2; exact hc0
    | succ i => exact h2 i q c e1 e2
theorem execs_append (env : Env) (rest : List Stmt) : ∀ l : List Stmt, execs (l ++ rest) env = (execs l env >>= fun f => match f with | .next => execs rest env | f => pure f)
  | [] => by
    rw [List.nil_append]
    show _ = ((pure Flow.next : Sem Flow) >>= _)
    rw [pure_bind]
  | s :: l => by
    rw [List.cons_append, execs_cons, execs_cons, bind_assoc]
    congr 1
    funext f
    cases f with
    | next => exact execs_append env rest l
    | _ => rw [pure_bind]
theorem wpAny_execs_append {M : Model} {A : Around} {E : Value → Shared → Prop} {s : Shared} {env : Env} {l rest : List Stmt} {Q : Flow → Shared → Prop}
    (h : wpAny M A (execs l env) (fun f s' => match f with | .next => wpAny M A (execs rest env) Q E s' | f => Q f s') E s) : wpAny M A (execs (l ++ rest) env) Q E s := by
  rw [execs_append]
  refine wpAny_bind (wpAny_mono h (fun f s' q => ?_) fun _ _ q => q)
  cases f with
  | next => exact q
  | _ => exact wpAny_pure q
theorem calEs {P : Program} {w : World} {K : PySem.W.Frag} {mg : Str → Option Value} {base : Heap} {x : Str} {st : Stmt} {ss : List Stmt} {e0 : Expr} {p0 : Pos} {f : Addr} {fd : FuncData} {N ps : List Str} {ds : List Value} {dvs : List V} {k : Nat} {sp : Sp} {cdv : Value} (ys : List (Nat × Str)) (F : C8.Def K mg x st f fd) (hc : fd.code = cdv) (b : Binds K fd ps ds) (d : Vals dvs ds) (S : FnScope N ps (C8.fnScope st)) (len : ∀ vs H Q E, sp vs H Q E → vs.length = ps.length)
    (hst : C8.fnBody st = ss ++ [.Return (some e0) p0]) (hy : ∀ q ∈ ys, N[q.1]? = some q.2 ∧ (C8.fnScope st).names.lookup q.2 = some .cell) (hnd : (ys.map (·.2)).Nodup)
    (hbody : ∀ (A : Around) (outer : List Env) (s : Shared) (H : Hp) (vs : List V) (Q : VK) (E : XK), Room k (A.deeper (envOfC x (C8.fnScope st) s.heap.objs.size f cdv)) → sp vs H Q E →
      ∃ t te, PSs (cxOf C8.CX0 P w K mg base N x (C8.fnScope st) f cdv A outer s H E).nox ss t ∧ PE (cxOf C8.CX0 P w K mg base N x (C8.fnScope st) f cdv A outer s H E).nox e0 te ∧
        t { nx := fun σ H' => te σ H' fun v H2 => ∃ ws : List V, ws.length = ys.length ∧ (∀ (i : Nat) q z, ys[i]? = some q → ws[i]? = some z → σ[q.1]? = some (some z)) ∧
          ∀ cs : List Addr, cs.length = ys.length → (∀ (i : Nat) q c, ys[i]? = some q → cs[i]? = some c → (cellsFrom (s.heap.objs.size + 1) (C8.fnScope st).names []).lookup q.2 = some c) → (∀ c ∈ cs, H2 c = none ∧ H c = none) → cs.Nodup → Q v (putC (cs.zip ws) H2), rt := fun _ _ => False } (start N vs) H) : C8.Cal P w K mg base (k + 1) x sp dvs := by
  refine ⟨f, fd, ps, ds, ?_, F.mgf, F.kp, b, d⟩
  obtain ⟨oc, od, dV, kV, doc, pm, an, cdv', ct, osl, rfl, lk, hcd⟩ := F.fn.ex
  obtain rfl : cdv' = cdv := hc
  refine ⟨len, fun A outer s H args us vs Q E hr e1 hb r hsp => ?_⟩
  have hl := len _ _ _ _ hsp
  have KX : K.In s.heap := e1.mod.kin.keeps fun b o e => (e1.bs b o e).1
  have lim : s.heap.NoLimit := e1.mod.nolimit.keeps fun b o e => (e1.bs b o e).1
  have hkind : ∀ y ∈ ps.zip us, (C8.fnScope st).names.lookup y.1 = some .local ∨ ((C8.fnScope st).names.lookup y.1 = some .cell ∧ ((cellsFrom (s.heap.objs.size + 1) (C8.fnScope st).names []).lookup y.1).isSome = true) := fun ⟨n, v⟩ hy => by
    rcases S.par n (List.of_mem_zip hy).1 with q | q
    · exact .inl q
    · exact .inr ⟨q, PySem.W.cellsFrom_some _ _ _ (.inl q)⟩
  refine codeAny_call_function hr.depth (KX _ _ lk) rfl S.co S.gen rfl (PySem.W.codeRec_of KX hcd) (hb _ _ _ _ ?_)
  refine wpAny_newFunctionEnv_cells S.kind hkind fun env he s1 xx => ?_
  subst he
  refine ⟨lim.keeps xx.toInCall.keep, codeAny_func ?_⟩
  obtain ⟨t, te, ht, hte, hq⟩ := hbody A outer s H vs Q E (hr.deeper _) hsp
  have I : Inv (cxOf C8.CX0 P w K mg base N x (C8.fnScope st) f cdv' A outer s H E) [] (start N vs) H s1 := inv_start S hr.hd e1 hl r xx
  have ht' := ht.nox
  have hte' := hte.nox
  show wpAny _ _ (execs (C8.fnBody st) _) _ _ _
  rw [hst]
  refine wpAny_execs_append (wpAny_mono (ht'.run [] s1 (start N vs) H _ I hq) (fun fl s' hs => ?_) fun e s' hs => hs)
  cases fl with
  | ret u =>
    obtain ⟨_, _, _, _, _, q⟩ := hs
    exact False.elim q
  | brk =>
    obtain ⟨_, _, _, q⟩ := hs
    exact False.elim q
  | cont =>
    obtain ⟨_, _, _, q⟩ := hs
    exact False.elim q
  | next =>
    obtain ⟨σ', H', J, q⟩ := hs
    refine wpAny_execs_cons (wpAny_Return_some (wpAny_mono (hte'.run [] s' σ' H' _ J q) (fun u s2 hu => ?_) fun e s' hs => hs))
    obtain ⟨v, H2, J2, rv, ws, hwl, hw, hQ⟩ := hu
    obtain ⟨cs, hcl, hcs⟩ := cells_list (n := s.heap.objs.size + 1) (sc := C8.fnScope st) ys fun q hq => (hy q hq).2
    have at_ : ∀ (i : Nat) c, cs[i]? = some c → ∃ q, ys[i]? = some q ∧ (cellsFrom (s.heap.objs.size + 1) (C8.fnScope st).names []).lookup q.2 = some c := fun i c e => by
      have hi : i < ys.length := by rw [← hcl]; exact (List.getElem?_eq_some_iff.mp e).1
      exact ⟨ys[i], List.getElem?_eq_getElem hi, hcs i _ c (List.getElem?_eq_getElem hi) e⟩
    have hge : ∀ c ∈ cs, s.heap.objs.size ≤ c := fun c hc => by
      obtain ⟨i, hi⟩ := List.getElem?_of_mem hc
      obtain ⟨q, _, e⟩ := at_ i c hi
      exact Nat.le_of_lt (xx.above q.2 c (PySem.mem_of_lookup e))
    have h2n : ∀ c ∈ cs, H2 c = none := fun c hc => by
      obtain ⟨i, hi⟩ := List.getElem?_of_mem hc
      obtain ⟨q, _, e⟩ := at_ i c hi
      exact J2.freeC q.2 c e
    have hn : ∀ c ∈ cs, H c = none := fun c hc => e1.hok.fresh (hge c hc)
    have hg : ∀ c ∈ cs, s.heap.get? c = none := fun c hc => Heap.get?_none_of_le (hge c hc)
    have hcnd : cs.Nodup := by
      rw [List.nodup_iff_pairwise_ne, List.pairwise_iff_getElem]
      intro i j hi hj hij e
      obtain ⟨p, hp, ep⟩ := at_ i _ (List.getElem?_eq_getElem hi)
      obtain ⟨q, hq, eq⟩ := at_ j _ (List.getElem?_eq_getElem hj)
      rw [← e] at eq
      have := J2.ok.inj p.2 q.2 _ ep eq
      rw [List.nodup_iff_pairwise_ne, List.pairwise_iff_getElem] at hnd
      have hpi := (List.getElem?_eq_some_iff.mp hp)
      have hqi := (List.getElem?_eq_some_iff.mp hq)
      refine hnd i j (by rw [List.length_map]; exact hpi.1) (by rw [List.length_map]; exact hqi.1) hij ?_
      rw [List.getElem_map, List.getElem_map, hpi.2, hqi.2]
      exact this
    obtain ⟨m, _, hloc⟩ := J2.loc
    have hzip : (cs.zip ws).map (·.1) = cs := by
      rw [List.map_fst_zip]; omega
    have hcell : ∀ p ∈ cs.zip ws, H2 p.1 = none ∧ ∃ u, RelV p.2 u ∧ s2.heap.IsCell p.1 (some u) := fun p hp => by
      refine ⟨h2n _ (List.of_mem_zip hp).1, ?_⟩
      obtain ⟨i, hi⟩ := List.getElem?_of_mem hp
      rw [List.getElem?_zip_eq_some] at hi
      obtain ⟨q, hq, eq⟩ := at_ i p.1 hi.1
      have hyq := hy q (List.mem_of_getElem? hq)
      obtain ⟨u0, ru, hlook⟩ := hloc q.1 q.2 p.2 hyq.1 (hw i q p.2 hq hi.2) (.inr (.inl hyq.2))
      refine ⟨u0, ru, ?_⟩
      rcases hlook with ⟨hk, _⟩ | ⟨_, c, ec, hcell⟩
      · have hk : (C8.fnScope st).names.lookup q.2 = some .local := hk
        rw [hyq.2] at hk; cases hk
      · have ec : (cellsFrom (s.heap.objs.size + 1) (C8.fnScope st).names []).lookup q.2 = some c := ec
        rw [eq] at ec; cases ec
        exact hcell
    have B : Un (frs outer) [] H H2 s.heap s2.heap := J2.base
    refine ⟨v, putC (cs.zip ws) H2, J2.os, J2.bare, un_putC B fun p hp => ⟨hg _ (List.of_mem_zip hp).1, hn _ (List.of_mem_zip hp).1⟩, hok_putC J2.hok (by rw [hzip]; exact hcnd) hcell, rv, hQ cs hcl hcs (fun c hc => ⟨h2n c hc, hn c hc⟩) hcnd⟩
structure HCells (cl : List (Str × Addr)) (fr : List Str) (ws : List (Option V)) (cw : List (Addr × V)) (H : Hp) : Prop where
  nd : (cw.map (·.1)).Nodup
  len : ws.length = fr.length
  all : ∀ y c, cl.lookup y = some c → c ∈ cw.map (·.1)
  inj : ∀ x y c, cl.lookup x = some c → cl.lookup y = some c → x = y
  has : ∀ (i : Nat) (y : Str), fr[i]? = some y → ∃ c, cl.lookup y = some c ∧ ∀ v, ws[i]? = some (some v) → (c, v) ∈ cw
  heap : ∀ p ∈ cw, H p.1 = some (CellO p.1 p.2)
section
variable {X : Cx} {pins : List (Addr × Obj)} {σ : L2.St} {H : Hp} {s : Shared}
theorem env_upM (I : Inv X pins σ H s) {cs : List Addr} {cw : List (Addr × V)} (hc : ∀ c ∈ cs, ∃ x, X.env.cells.lookup x = some c ∧ X.fn x = true) (hd : ∀ p ∈ cw, H p.1 = some (CellO p.1 p.2)) :
    Env0 X.prog X.w X.K X.mg (upB s.heap X.base (cs ++ cw.map (·.1))) X.A X.stack s (delC (cw.map (·.1)) H) := by
  have e1 := env_up I hc
  have e0 := I.env0
  have kk : ∀ b o, (upB s.heap X.base cs).get? b = some o → (upB s.heap X.base (cs ++ cw.map (·.1))).get? b = some o := fun b o e => by
    obtain ⟨h1, h2⟩ := of_upB e
    exact upB_get h1 (h2.imp id fun z => List.mem_append_left _ z)
  obtain ⟨mb, b1, b2⟩ := e1.mod.blt
  have nfr : ∀ b ∈ frs X.stack, b ∉ cw.map (·.1) := fun b hb hm => by
    obtain ⟨p, hp, z⟩ := List.mem_map.mp hm
    have h1 := e0.frf b hb
    have h2 := hd p hp
    rw [z, h1] at h2; cases h2
  have hok2 : HOk X.prog X.w (delC (cw.map (·.1)) H) s.heap := fun b u eb => by
    obtain ⟨q, n⟩ := delC_some eb
    have out : ∀ d o, H d = some o → (∀ w, o ≠ CellO d w) → delC (cw.map (·.1)) H d = some o := fun d o e ne => by
      rw [delC_out fun hm => ?_]
      · exact e
      obtain ⟨p, hp, z⟩ := List.mem_map.mp hm
      have h2 := hd p hp
      rw [z, e] at h2
      exact ne _ (Option.some.inj h2)
    exact (I.hok b u q).stay (fun _ _ _ q => q) (fun d q => out d _ q fun w z => cellO_own z.symm) fun d xs q => out d _ q fun w z => cellO_tup z.symm
  refine ⟨e0.frames, ⟨fun b o e => kk b o (e1.mod.kin b o e), e1.mod.glob.keeps kk, ⟨mb, b1.keeps kk, b2⟩, e1.mod.nolimit.keeps kk⟩, fun b o e => ?_, Nat.le_of_eq (hidT_size _ _), ?_, fun b hb => delC_none (e0.frf b hb), hok2, e0.bare⟩
  · obtain ⟨h1, h2⟩ := of_upB e
    refine ⟨h1, ?_⟩
    rcases h2 with h2 | h2
    · obtain ⟨o', q⟩ := Option.isSome_iff_exists.mp h2
      exact delC_none (e0.bs b o' q).2
    · rcases List.mem_append.mp h2 with h2 | h2
      · obtain ⟨x, hx, _⟩ := hc b h2
        exact delC_none (I.freeC x b hx)
      · exact delC_in h2
  · have key : ∀ {l : List Env}, s.heap.FunFrames (upB s.heap X.base cs) l → (∀ b ∈ frs l, b ∉ cw.map (·.1)) → s.heap.FunFrames (upB s.heap X.base (cs ++ cw.map (·.1))) l := fun {l} => by
      induction l with
      | nil => intro _ _; trivial
      | cons env rest ih =>
        rintro ⟨a, ⟨L, o, q1, q2, q3, q4⟩, r⟩ n
        have hm : L ∈ frs (env :: rest) := by unfold frs; rw [List.filterMap_cons, q1]; exact List.mem_cons_self
        refine ⟨a, ⟨L, o, q1, ?_, q3, q4⟩, ih r fun b hb => n b ?_⟩
        · cases q : (upB s.heap X.base (cs ++ cw.map (·.1))).get? L with
          | none => rfl
          | some o' =>
            obtain ⟨h1, h2⟩ := of_upB q
            have bad : ((X.base.get? L).isSome = true ∨ L ∈ cs) → False := fun z => by
              rw [upB_get h1 z] at q2; cases q2
            rcases h2 with z | z
            · exact absurd (.inl z) bad
            · rcases List.mem_append.mp z with z | z
              · exact absurd (.inr z) bad
              · exact absurd z (n L hm)
        · unfold frs at hb ⊢; rw [List.filterMap_cons, q1]; exact List.mem_cons_of_mem _ hb
    exact key e1.funs nfr
theorem BCells.more {cl : List (Str × Addr)} {fr : List Str} {ws : List (Option V)} {h base : Heap} {cs ds : List Addr} (B : BCells cl fr ws (upB h base cs)) : BCells cl fr ws (upB h base (cs ++ ds)) := by
  have kk : ∀ c v, (upB h base cs).IsCell c v → (upB h base (cs ++ ds)).IsCell c v := fun c v ⟨o, e, q⟩ => by
    obtain ⟨h1, h2⟩ := of_upB e
    exact ⟨o, upB_get h1 (h2.imp id fun z => List.mem_append_left _ z), q⟩
  exact ⟨B.len, fun y c e => let ⟨v, z⟩ := B.all y c e; ⟨v, kk c v z⟩, B.inj, fun i y e => let ⟨c, h1, h2⟩ := B.has i y e; ⟨c, h1, fun v hv => let ⟨u, r, z⟩ := h2 v hv; ⟨u, r, kk c _ z⟩⟩⟩
theorem HCells.up {cl : List (Str × Addr)} {fr : List Str} {ws : List (Option V)} {cw : List (Addr × V)} {P : Program} {w : World} {h base : Heap} {cs : List Addr} (C : HCells cl fr ws cw H) (hok : HOk P w H h) : BCells cl fr ws (upB h base (cs ++ cw.map (·.1))) := by
  have kk : ∀ p ∈ cw, ∃ u, RelV p.2 u ∧ (upB h base (cs ++ cw.map (·.1))).IsCell p.1 (some u) := fun p hp => by
    obtain ⟨u, r, o, h1, h2⟩ := cellO_at hok (C.heap p hp)
    exact ⟨u, r, o, upB_get h1 (.inr (List.mem_append_right _ (List.mem_map.mpr ⟨p, hp, rfl⟩))), h2⟩
  refine ⟨C.len, fun y c e => ?_, C.inj, fun i y e => ?_⟩
  · obtain ⟨p, hp, rfl⟩ := List.mem_map.mp (C.all y c e)
    obtain ⟨u, _, z⟩ := kk p hp
    exact ⟨_, z⟩
  · obtain ⟨c, h1, h2⟩ := C.has i y e
    exact ⟨c, h1, fun v hv => kk (c, v) (h2 v hv)⟩
def tUpM (js : List Nat) (frE : List Str) (S : List (Option V) → List (Str × Addr) → List (Option V) → Sp → Prop) (t : TA) : TE := fun σ H Q => t σ H fun vs H1 => ∃ (clE : List (Str × Addr)) (wsE : List (Option V)) (cw : List (Addr × V)) (sp : Sp), HCells clE frE wsE cw H1 ∧ S (js.map (slotAt σ)) clE wsE sp ∧ sp vs (delC (cw.map (·.1)) H1) (fun v H2 => (∀ p ∈ cw, H2 p.1 = none) → Q v (putC cw H2)) C8.E0
theorem pe_cUpM {k j : Nat} {g : Addr} {x : Str} {p pos : Pos} {e : Expr} {es : List Expr} {t : TA} {cl : List (Str × Addr)} {fr frE : List Str} {js : List Nat} {S : List (Option V) → List (Str × Addr) → List (Option V) → Sp → Prop} (named : X.mg x = some (.ref g)) (kept : PySem.W.keepIn X.K (.ref g) = true)
    (cp : X.Ok → Caps X cl fr js) (hfn : ∀ y c, cl.lookup y = some c → X.fn y = true)
    (hS : ∀ ws clE wsE sp (base' : Heap), S ws clE wsE sp → X.K.In base' → base'.Ns mainGlobals X.mg → BCells cl fr ws base' → BCells clE frE wsE base' → Cal X.prog X.w X.K X.mg base' k x sp []) (room : Room j X.A) (hk : k ≤ j) (hg : Gl X x) (ha : PA X (e :: es) t) (nd : cl.map (·.1) |>.Nodup) (hdb : (x == ("__debug__" : Str)) = false := by decide)
    (he : starEach (e :: es) X.env = (false, eval e X.env) :: starEach es X.env := by rfl) (hpl : (backTo pos (starEach es X.env)).any (·.1) = false := by rfl) : PE X (.Call (.Name x p) (e :: es) [] pos) (tUpM js frE S t) := by
  constructor
  intro pins s σ H Q I want
  refine wpAny_Call_Name_kw (ld_glob I hg named ?_ hdb)
  refine PySem.W.callWith_K (h₀ := X.base) I.ok.mod.kin kept (thn (ha.run pos pins s σ H _ I want) ?_) he hpl
  rintro us s1 ⟨vs, H1, I1, rel, clE, wsE, cw, sp, hC, s0, q⟩
  refine ⟨I1.kIn, ?_⟩
  have C := cp I1.ok
  have hcs : ∀ c ∈ cl.map (·.2), ∃ x, X.env.cells.lookup x = some c ∧ X.fn x = true := fun c hc => by
    obtain ⟨⟨y, c'⟩, hm, rfl⟩ := List.mem_map.mp hc
    have hl : cl.lookup y = some c' := by
      clear C hfn hS cp
      induction cl with
      | nil => cases hm
      | cons a r ih =>
        obtain ⟨z, d⟩ := a
        rw [List.map_cons, List.nodup_cons] at nd
        rcases List.mem_cons.mp hm with h | h
        · cases h; exact List.lookup_cons_self ..
        · have hne : (y == z) = false := by
            refine beq_eq_false_iff_ne.mpr fun e => nd.1 ?_
            rw [← e]; exact List.mem_map_of_mem (f := (·.1)) h
          rw [List.lookup_cons, hne]
          exact ih nd.2 h (List.mem_map_of_mem (f := (·.2)) h)
    exact ⟨y, C.sub y c' hl, hfn y c' hl⟩
  have E1 := env_upM I1 hcs hC.heap
  obtain ⟨f, fd, ps, ds, F, named', _, bd, dv⟩ := (hS _ clE wsE sp _ s0 E1.mod.kin E1.mod.glob (cells_up I1 C).more (hC.up I1.hok)).ex
  rw [named] at named'
  cases named'
  cases dv
  have count : (us ++ []).length = ps.length := by rw [List.append_nil, ← rel.length]; exact F.len _ _ _ _ q
  have bs := bd s1 us I1.kIn count
  rw [List.append_nil] at bs
  refine wpAny_call (codeAny_mono (F.run X.A X.stack s1 (delC (cw.map (·.1)) H1) ⟨us, []⟩ us vs (fun v H2 => (∀ p ∈ cw, H2 p.1 = none) → Q v (putC cw H2)) C8.E0 (room.mono hk) E1 bs rel q) fun r t' got => ?_)
  match r, got with
  | .ok (.ret u), got =>
    obtain ⟨v, H', os, bare, un, hok, rv, qq⟩ := got
    have e0 := I1.env0
    have key : ∀ p ∈ cw, H' p.1 = none ∧ ∃ u, RelV p.2 u ∧ t'.heap.IsCell p.1 (some u) := fun p hp => by
      obtain ⟨u, r, o, h1, h2⟩ := cellO_at I1.hok (hC.heap p hp)
      have hm : p.1 ∈ cw.map (·.1) := List.mem_map.mpr ⟨p, hp, rfl⟩
      have nc : p.1 ∉ frs X.stack := fun hb => by
        have h3 := e0.frf _ hb
        rw [hC.heap p hp] at h3; cases h3
      exact ⟨un.free p.1 o h1 (delC_in hm) (fun z => nomatch z), u, r, o, un.keep p.1 o h1 (delC_in hm) nc (fun z => nomatch z), h2⟩
    exact I1.after ⟨v, putC cw H', os, bare, un_back un hC.heap, hok_putC hok hC.nd key, rv, qq fun p hp => (key p hp).1⟩
end
end LX
set_option maxHeartbeats 4000000
namespace Toy
open PySem L2 C8 SX LX
theorem extN_same {H H' : Hp} (s : Same H H') : LamX.ExtN H H' := fun b o h _ => s b o h
theorem RdrAt.ext {C : Addr} {H H' : Hp} {a : Addr} {sg : List Nat} {ms : List (List Nat)} {f : List Nat} {tg : List Nat → Nat → List Nat} {dx m st nu le : Addr} {sa la : List Nat → Addr} {t : List (Str × V)} (h : RdrAt C H a sg ms f tg dx m st nu le sa la t) (s : LamX.ExtN H H') : RdrAt C H' a sg ms f tg dx m st nu le sa la t :=
  ⟨s _ _ h.ha (by intro _ z; cases z), s _ _ h.hm (by intro _ z; cases z), s _ _ h.hst (by intro _ z; cases z), fun x hx => s _ _ (h.hsa x hx) (by intro _ z; cases z), s _ _ h.hnu (by intro _ z; cases z), s _ _ h.hle (by intro _ z; cases z), fun x hx => s _ _ (h.hla x hx) (by intro _ z; cases z)⟩
theorem Rdr.ext {C : Addr} {H H' : Hp} {a : Addr} {sg : List Nat} {ms : List (List Nat)} {f : List Nat} {tg : List Nat → Nat → List Nat} (r : Rdr C H a sg ms f tg) (s : LamX.ExtN H H') : Rdr C H' a sg ms f tg :=
  let ⟨dx, m, st, nu, le, sa, la, co, ca, h, hc⟩ := r; ⟨dx, m, st, nu, le, sa, la, co, ca, h.ext s, ⟨s _ _ hc.hco (by intro _ z; cases z), fun c hx => s _ _ (hc.hca c hx) (by intro _ z; cases z)⟩⟩
def leadT (sg : List Nat) (ms : List (List Nat)) (tg : List Nat → Nat → List Nat) (t i : Nat) : Nat := ms.idxOf (tg (ms.getD t []) (sg.getD i 0))
theorem lead_lt {sg : List Nat} {ms : List (List Nat)} {f : List Nat} {tg : List Nat → Nat → List Nat} (g : Good sg ms f tg) : ∀ t i, t < ms.length → i < sg.length → leadT sg ms tg t i < ms.length := fun t i ht hi => by
  unfold leadT
  refine List.idxOf_lt_length_of_mem ?_
  rw [List.getD_eq_getElem?_getD, List.getD_eq_getElem?_getD, List.getElem?_eq_getElem ht, List.getElem?_eq_getElem hi]
  exact g.htg _ (List.getElem_mem ht) _ (List.getElem_mem hi)
def ThP (n m : Nat) (t : List Nat) : Prop := ∃ i j, t = [i, j] ∧ i < n ∧ j < m
def leadP (la lb : Nat → Nat → Nat) (t : List Nat) (c : Nat) : List Nat := [la (t.getD 0 0) c, lb (t.getD 1 0) c]
def partP (fa fb : Nat → Bool) (t : List Nat) : Bool := fa (t.getD 0 0) != fb (t.getD 1 0)
theorem fewP (n m : Nat) : Few (ThP n m) (n * m) := fun l nd h => by
  have := UW.sub_len ((List.range n).flatMap fun i => (List.range m).map fun j => [i, j]) l nd fun x hx => by
    obtain ⟨i, j, rfl, hi, hj⟩ := h x hx
    exact List.mem_flatMap.mpr ⟨i, List.mem_range.mpr hi, List.mem_map.mpr ⟨j, List.mem_range.mpr hj, rfl⟩⟩
  have e : ∀ l : List Nat, (l.flatMap fun i => (List.range m).map fun j => [i, j]).length = l.length * m := by
    intro l
    induction l with
    | nil => simp
    | cons r l ih => rw [List.flatMap_cons, List.length_append, ih, List.length_map, List.length_range, List.length_cons, Nat.add_mul]; omega
  rw [e, List.length_range] at this
  exact this
theorem leadP_ok {la lb : Nat → Nat → Nat} {n m k : Nat} (ha : ∀ t i, t < n → i < k → la t i < n) (hb : ∀ t i, t < m → i < k → lb t i < m) : ∀ t i, ThP n m t → i < k → ThP n m (leadP la lb t i) := fun t c h hc => by
  obtain ⟨i, j, rfl, hi, hj⟩ := h
  exact ⟨_, _, rfl, ha i c hi hc, hb j c hj hc⟩
theorem runP {la lb : Nat → Nat → Nat} : ∀ (w : List Nat) (i j : Nat), UW.run (leadP la lb) [i, j] w = [UW.run la i w, UW.run lb j w]
  | [], _, _ => rfl
  | c :: w, i, j => runP w _ _
section
variable {P : Program} {w : World} {K : PySem.W.Frag} {mg : Str → Option Value} {base : Heap}
def TabAt (sg : List Nat) (ms : List (List Nat)) (tg : List Nat → Nat → List Nat) (tb : Addr) (ra : List Nat → Addr) (H : Hp) : Prop := H tb = some (.lst (ms.map fun x => .ref (ra x))) ∧ ∀ x ∈ ms, H (ra x) = some (.lst (tabI sg ms tg x))
theorem TabAt.ext {sg : List Nat} {ms : List (List Nat)} {tg : List Nat → Nat → List Nat} {tb : Addr} {ra : List Nat → Addr} {H H' : Hp} (h : TabAt sg ms tg tb ra H) (s : LamX.ExtN H H') : TabAt sg ms tg tb ra H' := ⟨s _ _ h.1 (by intro _ z; cases z), fun x hx => s _ _ (h.2 x hx) (by intro _ z; cases z)⟩
theorem TabAt.get {sg : List Nat} {ms : List (List Nat)} {tg : List Nat → Nat → List Nat} {tb : Addr} {ra : List Nat → Addr} {H : Hp} (h : TabAt sg ms tg tb ra H) {t i : Nat} (ht : t < ms.length) (hi : i < sg.length) : ∃ x, (ms.map fun x => V.ref (ra x))[t]? = some (.ref (ra x)) ∧ H (ra x) = some (.lst (tabI sg ms tg x)) ∧ (tabI sg ms tg x)[i]? = some (.int (leadT sg ms tg t i : Nat)) := by
  obtain ⟨x, hx⟩ : ∃ x, ms[t]? = some x := ⟨_, List.getElem?_eq_getElem ht⟩
  obtain ⟨c, hc⟩ : ∃ c, sg[i]? = some c := ⟨_, List.getElem?_eq_getElem hi⟩
  refine ⟨x, by rw [List.getElem?_map, hx]; rfl, h.2 x (List.mem_of_getElem? hx), ?_⟩
  have e : leadT sg ms tg t i = ms.idxOf (tg x c) := by unfold leadT; rw [List.getD_eq_getElem?_getD, List.getD_eq_getElem?_getD, hx, hc]; rfl
  unfold tabI
  rw [List.getElem?_map, hc, e]; rfl
def flV (fl : Nat → Bool) (n : Nat) : List V := (List.range n).map fun i => V.bl (fl i)
theorem flV_get {fl : Nat → Bool} {n i : Nat} (h : i < n) : (flV fl n)[i]? = some (.bl (fl i)) := by
  unfold flV; rw [List.getElem?_map, List.getElem?_range h]; rfl
abbrev s_pairlead : Stmt := top 38
abbrev n_pairlead : List Str := ["one", "other", "table", "others", "lead"]
theorem sc_pairlead : FnScope n_pairlead ["one", "other"] (fnScope s_pairlead) := fnScope_by (by decide +kernel)
abbrev s_plead : Stmt := (fnBody s_pairlead).getD 2 (.Pass ⟨0, 0, 0, 0⟩)
abbrev n_plead : List Str := ["pair", "at", "table", "others"]
abbrev fr_plead : List Str := ["table", "others"]
theorem sc_plead : NdefX.NScope n_plead ["pair", "at"] fr_plead (fnScope s_plead) := NdefX.nscope_by (by decide +kernel)
theorem nd_plead : NdefX.ndefB (fnScope s_pairlead) (fnScope s_plead) fr_plead = true := by decide +kernel
abbrev s_partrow : Stmt := top 39
abbrev n_partrow : List Str := ["one", "lot", "other", "others", "begin", "flags", "other_flags", "is_parted"]
theorem sc_partrow : FnScope n_partrow ["one", "lot", "other", "others", "begin"] (fnScope s_partrow) := fnScope_by (by decide +kernel)
abbrev s_isparted : Stmt := (fnBody s_partrow).getD 2 (.Pass ⟨0, 0, 0, 0⟩)
abbrev n_isparted : List Str := ["pair", "flags", "other_flags"]
abbrev fr_isparted : List Str := ["flags", "other_flags"]
theorem sc_isparted : NdefX.NScope n_isparted ["pair"] fr_isparted (fnScope s_isparted) := NdefX.nscope_by (by decide +kernel)
theorem nd_isparted : NdefX.ndefB (fnScope s_partrow) (fnScope s_isparted) fr_isparted = true := by decide +kernel
def nspPLead (sg : List Nat) (ma : List (List Nat)) (ta : List Nat → Nat → List Nat) (mb : List (List Nat)) (tb : List Nat → Nat → List Nat) : List (Option V) → Sp := fun ws vs H Q _ => ∃ (pa pb a : Addr) (ra rb : List Nat → Addr) (t : List Nat) (i : Nat), ws = [some (.ref pa), some (.ref pb)] ∧ vs = [.ref a, .int (i : Nat)] ∧ TabAt sg ma ta pa ra H ∧ TabAt sg mb tb pb rb H ∧ H a = some (.tup (tI t)) ∧ ThP ma.length mb.length t ∧ i < sg.length ∧
  ∀ (u : Addr) (H' : Hp), Same H H' → H' u = some (.tup (tI (leadP (leadT sg ma ta) (leadT sg mb tb) t i))) → Q (.ref u) H'
theorem nok_plead {sg : List Nat} {ma mb : List (List Nat)} {ta tb : List Nat → Nat → List Nat} (T : BT mg) {g c' : Addr} {cl : List (Str × Addr)} : NdefX.NOk P w K mg base C8.CX0 1 g (NdefX.NF.of s_plead "lead" "_pair_lead.<locals>.lead" cl c') ["pair", "at"] fr_plead (nspPLead sg ma ta mb tb) := by
  refine NdefX.nok_of sc_plead (fun _ _ _ us hl => match us, hl with | [_, _], _ => rfl) (fun ws vs H Q E h => ?_) (fun A outer s H vs ws Q E hr hf hc hl h => ?_)
  · obtain ⟨pa, pb, a, ra, rb, t, i, _, rfl, _⟩ := h; rfl
  · obtain ⟨pa, pb, a, ra, rb, t, i, rfl, rfl, h1, h2, ha, ⟨x, y, rfl, hx, hy⟩, hi, k⟩ := h
    refine ⟨_, (pss_one (ps_ret (pe_tup (pa_cons (pe_ix (ixl K) (pe_ix (ixl K) (pv 2) (pe_ix (ixt K) (pv 0) pe_int (fun _ _ => rfl)) (fun _ _ => rfl)) (pv 1) (fun _ _ => rfl)) (pa_cons (pe_ix (ixl K) (pe_ix (ixl K) (pv 3) (pe_ix (ixt K) (pv 0) pe_int (fun _ _ => rfl)) (fun _ _ => rfl)) (pv 1) (fun _ _ => rfl)) pa_nil))))
      ), ?_⟩
    obtain ⟨mx, e1, e2, e3⟩ := h1.get hx hi
    obtain ⟨my, f1, f2, f3⟩ := h2.get hy hi
    refine ⟨_, rfl, _, rfl, a, tI [x, y], 0, .int (x : Nat), rfl, rfl, SqT.of ha, rfl, ?_⟩
    refine ⟨pa, _, x, _, rfl, rfl, SqL.of h1.1, atI_nat e1, ?_⟩
    refine ⟨_, rfl, ra mx, _, i, _, rfl, rfl, SqL.of e2, atI_nat e3, ?_⟩
    refine ⟨_, rfl, _, rfl, a, tI [x, y], 1, .int (y : Nat), rfl, rfl, SqT.of ha, rfl, ?_⟩
    refine ⟨pb, _, y, _, rfl, rfl, SqL.of h2.1, atI_nat f1, ?_⟩
    refine ⟨_, rfl, rb my, _, i, _, rfl, rfl, SqL.of f2, atI_nat f3, ?_⟩
    refine ⟨by show 2 ≤ sizeLine; decide, fun u hu => k u _ (sm_new hu) upd_same⟩
def nspParted (fa fb : Nat → Bool) (n m : Nat) : List (Option V) → Sp := fun ws vs H Q _ => ∃ (pa pb a : Addr) (t : List Nat), ws = [some (.ref pa), some (.ref pb)] ∧ vs = [.ref a] ∧ H pa = some (.lst (flV fa n)) ∧ H pb = some (.lst (flV fb m)) ∧ H a = some (.tup (tI t)) ∧ ThP n m t ∧
  ∀ (H' : Hp), Same H H' → Q (.bl (partP fa fb t)) H'
theorem nok_isparted {fa fb : Nat → Bool} {n m : Nat} (T : BT mg) {g c' : Addr} {cl : List (Str × Addr)} : NdefX.NOk P w K mg base C8.CX0 1 g (NdefX.NF.of s_isparted "is_parted" "_parting_row.<locals>.is_parted" cl c') ["pair"] fr_isparted (nspParted fa fb n m) := by
  refine NdefX.nok_of sc_isparted (fun _ _ _ us hl => match us, hl with | [_], _ => rfl) (fun ws vs H Q E h => ?_) (fun A outer s H vs ws Q E hr hf hc hl h => ?_)
  · obtain ⟨pa, pb, a, t, _, rfl, _⟩ := h; rfl
  · obtain ⟨pa, pb, a, t, rfl, rfl, h1, h2, ha, ⟨x, y, rfl, hx, hy⟩, k⟩ := h
    refine ⟨_, (pss_one (ps_ret (pe_cmpR op_ne (pe_ix (ixl K) (pv 1) (pe_ix (ixt K) (pv 0) pe_int (fun _ _ => rfl)) (fun _ _ => rfl)) (pe_ix (ixl K) (pv 2) (pe_ix (ixt K) (pv 0) pe_int (fun _ _ => rfl)) (fun _ _ => rfl)) (nomark _)))
      ), ?_⟩
    refine ⟨_, rfl, _, rfl, a, tI [x, y], 0, .int (x : Nat), rfl, rfl, SqT.of ha, rfl, ?_⟩
    refine ⟨pa, _, x, _, rfl, rfl, SqL.of h1, atI_nat (flV_get hx), ?_⟩
    refine ⟨_, rfl, _, rfl, a, tI [x, y], 1, .int (y : Nat), rfl, rfl, SqT.of ha, rfl, ?_⟩
    refine ⟨pb, _, y, _, rfl, rfl, SqL.of h2, atI_nat (flV_get hy), ?_⟩
    refine ⟨rfl, ?_⟩
    rw [dec_bl]
    exact k H (Same.refl H)
def trP (cl : List (Str × Addr)) (gl c' : Addr) (sg : List Nat) (ma : List (List Nat)) (ta : List Nat → Nat → List Nat) (mb : List (List Nat)) (tb : List Nat → Nat → List Nat) (pa pb : Addr) (ra rb : List Nat → Addr) (H : Hp) : Prop :=
  H gl = some (NdefX.FnO gl (NdefX.NF.of s_plead "lead" "_pair_lead.<locals>.lead" cl c')) ∧ H c' = some (LamX.CodeO c' "_pair_lead.<locals>.lead") ∧ TabAt sg ma ta pa ra H ∧ TabAt sg mb tb pb rb H
theorem trP_same {cl : List (Str × Addr)} {gl c' : Addr} {sg : List Nat} {ma mb : List (List Nat)} {ta tb : List Nat → Nat → List Nat} {pa pb : Addr} {ra rb : List Nat → Addr} {H H' : Hp} (s : Same H H') (h : trP cl gl c' sg ma ta mb tb pa pb ra rb H) : trP cl gl c' sg ma ta mb tb pa pb ra rb H' :=
  ⟨s _ _ h.1, s _ _ h.2.1, h.2.2.1.ext (extN_same s), h.2.2.2.ext (extN_same s)⟩
def trQ (cl : List (Str × Addr)) (gl c' : Addr) (fa fb : Nat → Bool) (n m : Nat) (pa pb : Addr) (H : Hp) : Prop :=
  H gl = some (NdefX.FnO gl (NdefX.NF.of s_isparted "is_parted" "_parting_row.<locals>.is_parted" cl c')) ∧ H c' = some (LamX.CodeO c' "_parting_row.<locals>.is_parted") ∧ H pa = some (.lst (flV fa n)) ∧ H pb = some (.lst (flV fb m))
theorem trQ_same {cl : List (Str × Addr)} {gl c' : Addr} {fa fb : Nat → Bool} {n m : Nat} {pa pb : Addr} {H H' : Hp} (s : Same H H') (h : trQ cl gl c' fa fb n m pa pb H) : trQ cl gl c' fa fb n m pa pb H' :=
  ⟨s _ _ h.1, s _ _ h.2.1, s _ _ h.2.2.1, s _ _ h.2.2.2⟩
def SxP (cl : List (Str × Addr)) (ws : List (Option V)) (clE : List (Str × Addr)) (wsE : List (Option V)) (sp : Sp) : Prop := ∃ (sg : List Nat) (ma : List (List Nat)) (f1 : List Nat) (ta : List Nat → Nat → List Nat) (mb : List (List Nat)) (f2 : List Nat) (tb : List Nat → Nat → List Nat) (gl c' pa pb : Addr) (ra rb : List Nat → Addr) (gi ci qa qb : Addr) (fa fb : Nat → Bool),
  Good sg ma f1 ta ∧ Good sg mb f2 tb ∧ ws = [some (.ref qa), some (.ref qb)] ∧ wsE = [some (.ref pa), some (.ref pb)] ∧
  sp = spLeast (ThP ma.length mb.length) (ma.length * mb.length) gl gi (trP clE gl c' sg ma ta mb tb pa pb ra rb) (trQ cl gi ci fa fb ma.length mb.length qa qb) (leadP (leadT sg ma ta) (leadT sg mb tb)) (partP fa fb) sg
theorem up_leastP (T : BT mg) {gu gw : Addr} {fu fw : FuncData} (F_until : Def K mg "_walked_until" s_until gu fu) (b_until : Binds K fu ["signs", "begin", "lead", "is_last"] [])
    (F_least : Def K mg "least_way" s_least gw fw) (b_least : Binds K fw ["signs", "begin", "lead", "is_good"] []) (cl : List (Str × Addr)) (ws : List (Option V)) (clE : List (Str × Addr)) (wsE : List (Option V)) (sp : Sp) (base' : Heap) (h : SxP cl ws clE wsE sp) (_ : K.In base') (_ : base'.Ns mainGlobals mg) (B : BCells cl fr_isparted ws base') (BE : BCells clE fr_plead wsE base') : Cal P w K mg base' 3 "least_way" sp [] := by
  obtain ⟨sg, ma, f1, ta, mb, f2, tb, gl, c', pa, pb, ra, rb, gi, ci, qa, qb, fa, fb, ga, gb, rfl, rfl, rfl⟩ := h
  have hle := leadP_ok (lead_lt ga) (lead_lt gb)
  have cg : CV P w K mg base' 1 gi (trQ cl gi ci fa fb ma.length mb.length qa qb) (spIG (ThP ma.length mb.length) (partP fa fb)) := .inr ⟨_, _, _, _, _, nok_isparted (fa := fa) (fb := fb) (n := ma.length) (m := mb.length) T (c' := ci) (cl := cl), fun vs H Q htr q => by
    obtain ⟨a, t, rfl, ha, ht, k⟩ := q
    exact ⟨qa, qb, a, t, rfl, rfl, htr.2.2.1, htr.2.2.2, ha, ht, k⟩, B, fun H htr => ⟨htr.1, htr.2.1⟩⟩
  have ca : CV P w K mg base' 1 gl (trP clE gl c' sg ma ta mb tb pa pb ra rb) (spLG (ThP ma.length mb.length) sg.length (leadP (leadT sg ma ta) (leadT sg mb tb))) := .inr ⟨_, _, _, _, _, nok_plead (sg := sg) (ma := ma) (ta := ta) (mb := mb) (tb := tb) T (c' := c') (cl := clE), fun vs H Q htr q => by
    obtain ⟨a, t, i, rfl, ha, ht, hi, k⟩ := q
    exact ⟨pa, pb, a, ra, rb, t, i, rfl, rfl, htr.2.2.1, htr.2.2.2, ha, ht, hi, k⟩, BE, fun H htr => ⟨htr.1, htr.2.1⟩⟩
  refine ok_least T hle (CV.mono cg (by decide)) (fun _ _ s h => trQ_same s h) (ok_untilG (fewP _ _) ?_ ga.hsg.2.2.1 T ca cg (fun _ _ s h => trP_same s h) (fun _ _ s h => trQ_same s h) hle F_until b_until) F_least b_least
  have := Nat.mul_le_mul ga.h8 gb.h8
  omega
theorem putC_none {H : Hp} {cw : List (Addr × V)} (h : ∀ p ∈ cw, H p.1 = none) : delC (cw.map (·.1)) (putC cw H) = H := by
  funext b
  by_cases hb : b ∈ cw.map (·.1)
  · rw [delC_in hb]
    obtain ⟨p, hp, rfl⟩ := List.mem_map.mp hb
    exact (h p hp).symm
  · rw [delC_out hb, putC_out fun p hp z => hb (List.mem_map.mpr ⟨p, hp, z⟩)]
theorem same_putC {H : Hp} {cw : List (Addr × V)} (h : ∀ p ∈ cw, H p.1 = none) : Same H (putC cw H) := fun b o e => by
  rw [putC_out fun p hp z => by rw [← z, h p hp] at e; cases e]; exact e
def spPairLead (C : Addr) (TT : List NdefX.NTab) : Sp := fun vs H Q _ => ∃ (a b : Addr) (sg : List Nat) (ma : List (List Nat)) (fa : List Nat) (ta : List Nat → Nat → List Nat) (mb : List (List Nat)) (fb : List Nat) (tb : List Nat → Nat → List Nat), vs = [.ref a, .ref b] ∧ Rdr0 C H a sg ma fa ta ∧ Rdr0 C H b sg mb fb tb ∧ Good sg ma fa ta ∧ Good sg mb fb tb ∧ NdefX.TabsN TT H ∧
  ∀ (g c' pa pb : Addr) (ra rb : List Nat → Addr) (cl : List (Str × Addr)) (cw : List (Addr × V)) (H' : Hp), LamX.ExtN H H' → NdefX.TabsN TT H' → trP cl g c' sg ma ta mb tb pa pb ra rb H' → HCells cl fr_plead [some (.ref pa), some (.ref pb)] cw (putC cw H') → (∀ p ∈ cw, H' p.1 = none) → Q (.ref g) (putC cw H')
theorem ok_pairlead {C : Addr} (T : BT mg) {TT : List NdefX.NTab} {nm : Nat → Nat → Str} {cc PP : Addr} (TB : LamX.TabB base mg cc PP) (hm : (PP, nm) ∈ TT) (hnm : nm = fun _ _ => ("_pair_lead.<locals>.lead" : Str)) (hu : ∀ p ∈ TT, p.1 = PP → p.2 = nm)
    (c_table : Cal P w K mg base 2 "table_of" (spTable C) []) {f : Addr} {fd : FuncData} (F : Def K mg "_pair_lead" s_pairlead f fd) (hc : fd.code = .ref cc) (b : Binds K fd ["one", "other"] []) : Cal P w K mg base 3 "_pair_lead" (spPairLead C TT) [] := by
  subst hnm
  refine calEs (ss := (fnBody s_pairlead).take 3) [(2, "table"), (3, "others")] F hc b .nil sc_pairlead (fun vs H Q E h => ?_) rfl (fun q hq => ?_) (by decide +kernel) (fun A outer s H vs Q E hr h => ?_)
  · obtain ⟨a, b, _, _, _, _, _, _, _, rfl, _⟩ := h; rfl
  · rcases List.mem_cons.mp hq with rfl | hq
    · exact ⟨rfl, by decide +kernel⟩
    · rw [List.mem_singleton.mp hq]
      exact ⟨rfl, by decide +kernel⟩
  · obtain ⟨a, b, sg, ma, fa, ta, mb, fb, tb, rfl, ha, hb, ga, gb, hT, k⟩ := h
    refine ⟨_, _, (pss_cons (ps_set (i := 2) sc_pairlead.nd rfl (.inr rfl) (pe_c c_table hr (by first | decide | omega) (by rfl) (pa_cons (pv 0) pa_nil)))
      (pss_cons (ps_set (i := 3) sc_pairlead.nd rfl (.inr rfl) (pe_c c_table hr (by first | decide | omega) (by rfl) (pa_cons (pv 1) pa_nil)))
      (pss_one (NdefX.ps_ndefS (st := s_plead) (i := 4) rfl TB rfl hm rfl hu (NdefX.ndef_free nd_plead) rfl rfl rfl sc_pairlead.nd rfl (.inl rfl) (.inl rfl))
      ))), (pv 4), ?_⟩
    refine ⟨_, rfl, a, sg, ma, fa, ta, rfl, ha, ga, fun pa ra H1 s1 n1 h1 hra => ?_⟩
    refine ⟨_, rfl, b, sg, mb, fb, tb, rfl, hb.same s1, gb, fun pb rb H2 s2 n2 h2 hrb => ?_⟩
    have t1 : TabAt sg ma ta pa ra H2 := ⟨s2 _ _ h1, fun x hx => s2 _ _ (hra x hx)⟩
    have t2 : TabAt sg mb tb pb rb H2 := ⟨h2, hrb⟩
    refine ⟨hT.ext (s1.trans s2), fun g c' H3 e3 hT3 n3 hg hc' => ?_⟩
    refine ⟨_, rfl, [.ref pa, .ref pb], rfl, fun i q z e1 e2 => ?_, fun cs hcl hcs hcn hnd => ?_⟩
    · match i, e1, e2 with
      | 0, e1, e2 => cases e1; cases e2; rfl
      | 1, e1, e2 => cases e1; cases e2; rfl
      | _ + 2, e1, _ => cases e1
    match cs, hcl, hcs, hcn, hnd with
    | [c1, c2], _, hcs, hcn, hnd =>
      have l1 := hcs 0 _ c1 rfl rfl
      have l2 := hcs 1 _ c2 rfl rfl
      have hclo : ∃ cl : List (Str × Addr), cloFrom (cellsFrom (s.heap.objs.size + 1) (fnScope s_pairlead).names []) (fnScope s_plead).names [] = cl ∧ (cl = [(("table" : Str), c1), (("others" : Str), c2)] ∨ cl = [(("others" : Str), c2), (("table" : Str), c1)]) := by
        refine ⟨_, rfl, ?_⟩
        have e : ∀ cells : List (Str × Addr), cloFrom cells (fnScope s_plead).names [] = [(("table" : Str), (cells.lookup ("table" : Str)).getD 0), (("others" : Str), (cells.lookup ("others" : Str)).getD 0)] ∨ cloFrom cells (fnScope s_plead).names [] = [(("others" : Str), (cells.lookup ("others" : Str)).getD 0), (("table" : Str), (cells.lookup ("table" : Str)).getD 0)] := fun _ => by first | exact .inl rfl | exact .inr rfl
        rcases e (cellsFrom (s.heap.objs.size + 1) (fnScope s_pairlead).names []) with e | e
        · rw [e, l1, l2]; exact .inl rfl
        · rw [e, l1, l2]; exact .inr rfl
      obtain ⟨cl, ecl, hcl2⟩ := hclo
      have hg' : H3 g = some (NdefX.FnO g (NdefX.NF.of s_plead "lead" "_pair_lead.<locals>.lead" cl c')) := by rw [← ecl]; exact hg
      have n12 : c1 ≠ c2 := by
        rw [List.nodup_cons] at hnd
        exact fun z => hnd.1 (by rw [z]; exact List.mem_cons_self)
      have hn : ∀ p ∈ [c1, c2].zip [V.ref pa, V.ref pb], H3 p.1 = none := fun p hp => (hcn _ (List.of_mem_zip hp).1).1
      have s13 := extN_same (s1.trans s2)
      refine k g c' pa pb ra rb cl _ H3 (s13.trans e3) hT3 ⟨hg', hc', t1.ext e3, t2.ext e3⟩ ⟨?_, rfl, fun y c e => ?_, fun x y c e1 e2 => ?_, fun i y e => ?_, fun p hp => ?_⟩ hn
      · show ([c1, c2] : List Addr).Nodup
        exact hnd
      · have := mem_of_lookup e
        rcases hcl2 with rfl | rfl
        · rcases List.mem_cons.mp this with z | z
          · cases z; show c1 ∈ [c1, c2]; simp
          · rw [List.mem_singleton] at z; cases z; show c2 ∈ [c1, c2]; simp
        · rcases List.mem_cons.mp this with z | z
          · cases z; show c2 ∈ [c1, c2]; simp
          · rw [List.mem_singleton] at z; cases z; show c1 ∈ [c1, c2]; simp
      · have h1 := mem_of_lookup e1
        have h2 := mem_of_lookup e2
        have key : ∀ z : Str, (z, c) ∈ cl → (z = ("table" : Str) ∧ c = c1) ∨ (z = ("others" : Str) ∧ c = c2) := fun z hz => by
          rcases hcl2 with rfl | rfl
          · rcases List.mem_cons.mp hz with q | q
            · cases q; exact .inl ⟨rfl, rfl⟩
            · rw [List.mem_singleton] at q; cases q; exact .inr ⟨rfl, rfl⟩
          · rcases List.mem_cons.mp hz with q | q
            · cases q; exact .inr ⟨rfl, rfl⟩
            · rw [List.mem_singleton] at q; cases q; exact .inl ⟨rfl, rfl⟩
        rcases key x h1 with ⟨a1, a2⟩ | ⟨a1, a2⟩ <;> rcases key y h2 with ⟨b1, b2⟩ | ⟨b1, b2⟩
        · rw [a1, b1]
        · exact absurd (a2.symm.trans b2) n12
        · exact absurd (b2.symm.trans a2) n12
        · rw [a1, b1]
      · have hl1 : cl.lookup ("table" : Str) = some c1 := by rcases hcl2 with rfl | rfl <;> rfl
        have hl2 : cl.lookup ("others" : Str) = some c2 := by rcases hcl2 with rfl | rfl <;> rfl
        match i, e with
        | 0, e => cases e; exact ⟨c1, hl1, fun v hv => by cases hv; simp⟩
        | 1, e => cases e; exact ⟨c2, hl2, fun v hv => by cases hv; simp⟩
        | _ + 2, e => cases e
      · exact putC_in (by show ([c1, c2] : List Addr).Nodup; exact hnd) p hp
end
end Toy
set_option maxHeartbeats 4000000
namespace Toy
open PySem L2 C8 SX LX
section
variable {P : Program} {w : World} {K : PySem.W.Frag} {mg : Str → Option Value} {base : Heap}
abbrev s_flags : Stmt := top 33
abbrev n_flags : List Str := ["reader", "lot", "mark"]
theorem sc_flags : FnScope n_flags ["reader", "lot"] (fnScope s_flags) := fnScope_by (by decide +kernel)
def flO (ms ls : List (List Nat)) (i : Nat) : Bool := decide (ms.getD i [] ∈ ls)
def spFlags (K : PySem.W.Frag) (C : Addr) : Sp := fun vs H Q _ => ∃ (a q : Addr) (bb : Bool) (sg : List Nat) (ms : List (List Nat)) (f : List Nat) (tg : List Nat → Nat → List Nat) (ls : List (List Nat)), vs = [.ref a, .ref q] ∧ Rdr C H a sg ms f tg ∧ Good sg ms f tg ∧ SqB K bb H q (txs ls) ∧
  ∀ (D : Addr) (H' : Hp), Same H H' → H D = none → H' D = some (.lst (flV (flO ms ls) ms.length)) → Q (.ref D) H'
theorem ok_flags {C : Addr} (T : BT mg) (CH : CR K C) {f : Addr} {fd : FuncData} (F : Def K mg "flags_of" s_flags f fd) (b : Binds K fd ["reader", "lot"] []) : Cal P w K mg base 1 "flags_of" (spFlags K C) [] := by
  refine cal0 F b .nil sc_flags (fun vs H Q E h => ?_) (fun cdv A outer s H vs Q E hr h => ?_)
  · obtain ⟨a, q, _, _, _, _, _, _, rfl, _⟩ := h; rfl
  · obtain ⟨a, q, bb, sg, ms, f, tg, ls, rfl, hrd, hgd, hq, k⟩ := h
    obtain ⟨dx, m, st, nu, le, sa, la, co, ca, r, hcol⟩ := id hrd
    refine ⟨_, (pss_one (ps_ret (pe_lc (own := [("mark", 2)]) rfl sc_flags.nd (pi_tup (fldK K (pv 0) rfl)) (blkOk_by (N := n_flags) (sc := fnScope s_flags) (by decide +kernel)) (fun _ _ _ _ _ => (pg_name (i := 2) sc_flags.nd rfl (.inl rfl))) (fun _ _ _ _ _ => pts_nil) (fun _ _ _ _ _ => (pe_cmpR (inK K) (pv 2) (pv 1) rfl))))
      ), ?_⟩
    refine ⟨_, rfl, a, C, dx, _, _, rfl, r.ha, CH.cl, CH.nM, rl_marks, m, rfl, ⟨_, SqT.of r.hm⟩, fun D hD => ?_⟩
    have h8 := hgd.h8
    refine lc_keep keep_same (walk_tup (K := K) (a := m) (xs := txs ms)) hD (by rw [txs_len]; exact small1000 (by omega)) (fun j y => y = .bl (flO ms ls j)) (fun H r' => SqT.of (r' _ _ r.hm)) (fun i x H2 H3 R hi r' hy hR => ?_) (fun ys H2 hly hg r' hDs => ?_)
    · obtain ⟨rfl, ex⟩ := hy
      obtain ⟨mm, hm, rfl⟩ := txs_get ex
      refine ⟨rfl, ?_⟩
      refine ⟨_, rfl, _, rfl, q, txs ls, rfl, ((hq.same r')).or, rfl, flat_txs _, ?_⟩
      rw [inV_txs]
      refine hR _ _ (Same.refl _) ?_
      unfold flO
      rw [getD_of hm]; rfl
    · have ey : ys = flV (flO ms ls) ms.length := by
        rw [txs_len] at hly
        exact list_of hly hg
      subst ey
      exact k D H2 r' hD hDs
def spPartRow (K : PySem.W.Frag) (C : Addr) (TT : List NdefX.NTab) : Sp := fun vs H Q _ => ∃ (a q b r pb : Addr) (bq br : Bool) (sg : List Nat) (ma : List (List Nat)) (fa : List Nat) (ta : List Nat → Nat → List Nat) (mb : List (List Nat)) (fb : List Nat) (tb : List Nat → Nat → List Nat) (lq lr : List (List Nat)) (i j : Nat),
  vs = [.ref a, .ref q, .ref b, .ref r, .ref pb] ∧ Rdr C H a sg ma fa ta ∧ Rdr C H b sg mb fb tb ∧ Good sg ma fa ta ∧ Good sg mb fb tb ∧ SqB K bq H q (txs lq) ∧ SqB K br H r (txs lr) ∧ H pb = some (.tup (tI [i, j])) ∧ i < ma.length ∧ j < mb.length ∧ NdefX.TabsN TT H ∧
  ∀ (H' : Hp), LamX.ExtN H H' → NdefX.TabsN TT H' → Q (optV (foundG (partP (flO ma lq) (flO mb lr)) (walkG (leadP (leadT sg ma ta) (leadT sg mb tb)) (partP (flO ma lq) (flO mb lr)) sg (ma.length * mb.length) [i, j]))) H'
theorem ok_partrow {C : Addr} (T : BT mg) (CH : CR K C) {TT : List NdefX.NTab} {nm : Nat → Nat → Str} {cc PP : Addr} (TB : LamX.TabB base mg cc PP) (hm : (PP, nm) ∈ TT) (hnm : nm = fun _ _ => ("_parting_row.<locals>.is_parted" : Str)) (hu : ∀ p ∈ TT, p.1 = PP → p.2 = nm)
    (c_flags : Cal P w K mg base 1 "flags_of" (spFlags K C) []) (c_pairlead : Cal P w K mg base 3 "_pair_lead" (spPairLead C TT) [])
    {gw : Addr} {fw : FuncData} (F_least : Def K mg "least_way" s_least gw fw) (up_least : ∀ (cl : List (Str × Addr)) (ws : List (Option V)) (clE : List (Str × Addr)) (wsE : List (Option V)) (sp : Sp) (base' : Heap), SxP cl ws clE wsE sp → K.In base' → base'.Ns mainGlobals mg → BCells cl fr_isparted ws base' → BCells clE fr_plead wsE base' → Cal P w K mg base' 3 "least_way" sp [])
    {f : Addr} {fd : FuncData} (F : Def K mg "_parting_row" s_partrow f fd) (hc : fd.code = .ref cc) (b : Binds K fd ["one", "lot", "other", "others", "begin"] []) : Cal P w K mg base 4 "_parting_row" (spPartRow K C TT) [] := by
  subst hnm
  refine calC F hc b .nil sc_partrow (fun vs H Q E h => ?_) (fun A outer s H vs Q E hr h => ?_)
  · obtain ⟨a, q, b, r, pb, _, _, _, _, _, _, _, _, _, _, _, _, _, rfl, _⟩ := h; rfl
  · obtain ⟨a, q, b, r, pb, bq, br, sg, ma, fa, ta, mb, fb, tb, lq, lr, i, j, rfl, ha, hb, ga, gb, hq, hr2, hpb, hi, hj, hT, k⟩ := h
    refine ⟨_, (pss_cons (ps_set (i := 5) sc_partrow.nd rfl (.inr rfl) (pe_c c_flags hr (by first | decide | omega) (by rfl) (pa_cons (pv 0) (pa_cons (pv 1) pa_nil))))
      (pss_cons (ps_set (i := 6) sc_partrow.nd rfl (.inr rfl) (pe_c c_flags hr (by first | decide | omega) (by rfl) (pa_cons (pv 2) (pa_cons (pv 3) pa_nil))))
      (pss_cons (NdefX.ps_ndefS (st := s_isparted) (i := 7) rfl TB rfl hm rfl hu (NdefX.ndef_free nd_isparted) rfl rfl rfl sc_partrow.nd rfl (.inl rfl) (.inl rfl))
      (pss_one (ps_ret (pe_cUpM (js := [5, 6]) (frE := ["table", "others"]) F_least.mgf F_least.kp (fun ok => NdefX.Caps.made (scope := fnScope s_isparted) ok (NdefX.ndef_free nd_isparted) (NdefX.ndef_fr nd_isparted) rfl) (fun _ _ _ => rfl) (up_least _) hr (Nat.le_refl _) (by rfl) (pa_cons (fldK K (pv 0) rfl) (pa_cons (pv 4) (pa_cons (pe_c c_pairlead hr (by first | decide | omega) (by rfl) (pa_cons (pv 0) (pa_cons (pv 2) pa_nil))) (pa_cons (pv 7) pa_nil)))) (by first | decide | exact (by decide : (["flags", "other_flags"] : List Str).Nodup) | exact (by decide : (["other_flags", "flags"] : List Str).Nodup))))
      )))), ?_⟩
    refine ⟨_, rfl, _, rfl, a, q, bq, sg, ma, fa, ta, lq, rfl, ha, ga, hq, fun qa H1 s1 n1 h1 => ?_⟩
    refine ⟨_, rfl, _, rfl, b, r, br, sg, mb, fb, tb, lr, rfl, hb.same s1, gb, hr2.same s1, fun qb H2 s2 n2 h2 => ?_⟩
    have s12 := s1.trans s2
    refine ⟨hT.ext s12, fun gi ci H3 e3 hT3 n3 hg hc' => ?_⟩
    have e03 : LamX.ExtN H H3 := (extN_same s12).trans e3
    have ha3 := ha.ext e03
    have hb3 := hb.ext e03
    obtain ⟨dx, m, st, nu, le, sa, la, co, ca, r3, hcol⟩ := id ha3
    refine ⟨_, rfl, a, C, dx, _, _, rfl, r3.ha, CH.cl, CH.nS, rl_signs, ?_⟩
    refine ⟨_, rfl, ?_⟩
    refine ⟨_, rfl, _, rfl, a, b, sg, ma, fa, ta, mb, fb, tb, rfl, ha3.to0, hb3.to0, ga, gb, hT3, fun g c' pa pb' ra rb cl cw H4 e4 hT4 tr4 hC hn => ?_⟩
    refine ⟨_, rfl, ?_⟩
    have e04 := e03.trans e4
    have x : ∀ b o, H3 b = some o → (∀ ps, o ≠ .tbl ps) → H4 b = some o := fun b o e n => e4 b o e n
    refine ⟨cl, _, cw, _, hC, ⟨sg, ma, fa, ta, mb, fb, tb, g, c', pa, pb', ra, rb, gi, ci, qa, qb, flO ma lq, flO mb lr, ga, gb, rfl, rfl, rfl⟩, ?_⟩
    rw [putC_none hn]
    refine ⟨pb, [i, j], rfl, e04 _ _ hpb (by intro _ z; cases z), ⟨i, j, rfl, hi, hj⟩, tr4, ⟨e4 _ _ hg (by intro _ z; cases z), e4 _ _ hc' (by intro _ z; cases z), e4 _ _ (e3 _ _ (s2 _ _ h1) (by intro _ z; cases z)) (by intro _ z; cases z), e4 _ _ (e3 _ _ h2 (by intro _ z; cases z)) (by intro _ z; cases z)⟩, fun H5 s5 hn5 => ?_⟩
    have s5p := same_putC hn5
    exact k _ ((e04.trans (extN_same s5)).trans (extN_same s5p)) ((hT4.ext s5).ext s5p)
end
end Toy
set_option maxHeartbeats 4000000
namespace Toy
open PySem L2 C8 SX LX
section
variable {P : Program} {w : World} {K : PySem.W.Frag} {mg : Str → Option Value} {base : Heap}
theorem fn_or {k : Nat} {f : Addr} {fd : FuncData} {ps : List Str} {sp1 sp2 : Sp} (F1 : FnOk P w K mg base C8.CX0 k f fd ps sp1) (F2 : FnOk P w K mg base C8.CX0 k f fd ps sp2) : FnOk P w K mg base C8.CX0 k f fd ps (fun vs H Q E => sp1 vs H Q E ∨ sp2 vs H Q E) :=
  ⟨fun vs H Q E h => h.elim (F1.len vs H Q E) (F2.len vs H Q E), fun A outer s H args us vs Q E hr he hb hv h => h.elim (F1.run A outer s H args us vs Q E hr he hb hv) (F2.run A outer s H args us vs Q E hr he hb hv)⟩
def spNum (K : PySem.W.Frag) : Sp := fun vs H Q E => spNumB K vs H Q E ∨ spNumN K vs H Q E
theorem ok_num (T : BT mg) {f : Addr} {fd : FuncData} (F : Def K mg "numbered" s_numbered f fd) (b : Binds K fd ["things"] []) : Cal P w K mg base 1 "numbered" (spNum K) [] :=
  ⟨f, fd, _, _, fn_or (ok_numB T F b) (ok_numN T F b), F.mgf, F.kp, b, .nil⟩
abbrev s_alike : Stmt := top 3
abbrev n_alike : List Str := ["table", "things", "groups", "finer", "group", "targets", "target"]
theorem sc_alike : FnScope n_alike ["table", "things"] (fnScope s_alike) := fnScope_by (by decide +kernel)
def wArg : Stmt → Expr
  | .While _ (.Assign _ (.Call _ [e] _ _) _ :: _) _ _ => e
  | _ => .Constant .none 0 ⟨0, 0, 0, 0⟩
abbrev ncs_alike : Scope := relS (outS (wArg ((fnBody s_alike).getD 1 (.Pass ⟨0, 0, 0, 0⟩)))) (fnScope s_alike)
def keyN (q : Nat × List Nat) : NestedKey := .tup [.num (q.1 : Nat), .tup (q.2.map fun (k : Nat) => .num (k : Nat))]
theorem keyN_inj (a b : Nat × List Nat) (h : keyN a = keyN b) : a = b := by
  obtain ⟨a1, a2⟩ := a
  obtain ⟨b1, b2⟩ := b
  unfold keyN at h
  simp only [NestedKey.tup.injEq, List.cons.injEq, NestedKey.num.injEq, and_true] at h
  have h1 : a1 = b1 := by omega
  have h2 : ∀ {x y : List Nat}, (x.map fun (k : Nat) => NestedKey.num (k : Nat)) = (y.map fun (k : Nat) => NestedKey.num (k : Nat)) → x = y := by
    intro x
    induction x with
    | nil => intro y e; cases y with | nil => rfl | cons _ _ => cases e
    | cons c x ih =>
      intro y e
      cases y with
      | nil => cases e
      | cons d y =>
        rw [List.map_cons, List.map_cons, List.cons.injEq, NestedKey.num.injEq] at e
        rw [ih e.2, show c = d by omega]
  rw [h1, h2 h.2]
theorem depth_nums : ∀ l : List Nat, NestedKey.depthAll (l.map fun (k : Nat) => NestedKey.num (k : Nat)) = 0
  | [] => rfl
  | k :: l => by
    rw [List.map_cons]
    show max 0 (NestedKey.depthAll (l.map fun (k : Nat) => NestedKey.num (k : Nat))) = 0
    rw [depth_nums l]; rfl
theorem keyN_depth (q : Nat × List Nat) : (keyN q).depth ≤ 8 := by
  have : (keyN q).depth = max 0 (max (NestedKey.depthAll (q.2.map fun (k : Nat) => NestedKey.num (k : Nat)) + 1) 0) + 1 := rfl
  rw [this, depth_nums]
  decide
theorem nks_nums {H : Hp} : ∀ l : List Nat, NKs K H (tI l) (l.map fun (k : Nat) => NestedKey.num (k : Nat))
  | [] => .nil
  | k :: l => .cons (.int _) (nks_nums l)
theorem nk_key {H : Hp} {t u : Addr} {q : Nat × List Nat} (h1 : H t = some (.tup [.int (q.1 : Nat), .ref u])) (h2 : H u = some (.tup (tI q.2))) : NK K H (.ref t) (keyN q) :=
  .tup (SqT.of h1) (.cons (.int _) (.cons (.tup (SqT.of h2) (nks_nums q.2)) .nil))
def pairN (sg : List Nat) (ms : List (List Nat)) (tg : List Nat → Nat → List Nat) (g : List Nat) (i : Nat) : Nat × List Nat := (g.getD i 0, (List.range sg.length).map fun c => g.getD (leadT sg ms tg i c) 0)
theorem intsV (g : List Nat) : (g.map fun (k : Nat) => V.int (k : Nat)) = (g.map fun (k : Nat) => (k : Int)).map V.int := by rw [List.map_map]; rfl
def spAlike : Sp := fun vs H Q _ => ∃ (pt pf : Addr) (sg : List Nat) (ms : List (List Nat)) (f : List Nat) (tg : List Nat → Nat → List Nat) (ra : List Nat → Addr) (fl : Nat → Bool), vs = [.ref pt, .ref pf] ∧ Good sg ms f tg ∧ TabAt sg ms tg pt ra H ∧ H pf = some (.lst (flV fl ms.length)) ∧
  ∀ (D : Addr) (g : List Nat) (H' : Hp), Same H H' → H D = none → H' D = some (.lst (g.map fun (k : Nat) => V.int (k : Nat))) → g.length = ms.length → UW.num g = g → (∀ i j, i < ms.length → j < ms.length → (g.getD i 0 = g.getD j 0 ↔ ∀ w, UW.Rw sg.length w → fl (UW.run (leadT sg ms tg) i w) = fl (UW.run (leadT sg ms tg) j w))) → Q (.ref D) H'
theorem ok_alike (T : BT mg) (c_numbered : Cal P w K mg base 1 "numbered" (spNum K) []) {f : Addr} {fd : FuncData} (F : Def K mg "alike_numbers" s_alike f fd) (b : Binds K fd ["table", "things"] []) : Cal P w K mg base 2 "alike_numbers" spAlike [] := by
  refine cal0 F b .nil sc_alike (fun vs H Q E h => ?_) (fun cdv A outer s H vs Q E hr h => ?_)
  · obtain ⟨pt, pf, _, _, _, _, _, _, rfl, _⟩ := h; rfl
  · obtain ⟨pt, pf, sg, ms, f, tg, ra, fl, rfl, hgd, ht, hf, k⟩ := h
    refine ⟨_, (pss_cons (ps_set (i := 2) sc_alike.nd rfl (.inr rfl) (pe_c c_numbered hr (by first | decide | omega) (by rfl) (pa_cons (pv 1) pa_nil)))
      (pss_one (ps_while PassesOwn.never (pt_val pe_bl) 
        (pss_cons (ps_set (i := 3) sc_alike.nd rfl (.inl rfl) (pe_c c_numbered hr (by first | decide | omega) (by rfl) (pa_cons (pe_lc (own := [("group", 4), ("targets", 5)]) rfl sc_alike.nd (pi_zipX (by rfl) T.m_zip (pa_cons (pv 2) (pa_cons (pv 0) pa_nil))) (blkOk_by (N := n_alike) (sc := fnScope s_alike) (by decide +kernel)) (fun _ _ _ _ _ => (tupK K 2 (pgs_cons (pg_name (i := 4) sc_alike.nd rfl (.inl rfl)) (pgs_cons (pg_name (i := 5) sc_alike.nd rfl (.inl rfl)) pgs_nil)))) (fun _ _ _ _ _ => pts_nil) (fun _ _ _ _ _ => (pe_tup (pa_cons (pv 4) (pa_cons (pe_callTy (tupleK K) (by rfl) T.m_tuple PyProof.Rows.boot_tuple (pa_cons (pe_lc (own := [("target", 6)]) rfl sc_alike.nd (pi_listK K (pv 5)) (blkOk_by (N := n_alike) (sc := ncs_alike) (by decide +kernel)) (fun _ _ _ _ _ => (pg_name (i := 6) sc_alike.nd rfl (.inl rfl))) (fun _ _ _ _ _ => pts_nil) (fun _ _ _ _ _ => (pe_ix (ixl K) (pv 2) (pv 6) (fun _ _ => rfl)))) pa_nil)) pa_nil))))) pa_nil)))
        (pss_cons (ps_if (pt_cmpR op_eq (pe_callB (cr_max rfl) (by rfl) T.m_max PyProof.Rows.boot_max (pa_cons (pv 3) pa_nil)) (pe_callB (cr_max rfl) (by rfl) T.m_max PyProof.Rows.boot_max (pa_cons (pv 2) pa_nil)) (nomark _)) 
          (pss_one (ps_ret (pv 3))
          )
         pss_nil)
        (pss_one (ps_set (i := 2) sc_alike.nd rfl (.inr rfl) (pv 3))
        ))))
      )), ?_⟩
    have h8 := hgd.h8
    have h1 := hgd.h1
    have hl3 := hgd.hsg.2.2.1
    have hll := lead_lt hgd
    have ebs : flV fl ms.length = ((List.range ms.length).map fl).map V.bl := by unfold flV; rw [List.map_map]; rfl
    refine ⟨_, rfl, .inl ⟨pf, (List.range ms.length).map fl, rfl, SqL.of (by rw [← ebs]; exact hf), by rw [List.length_map, List.length_range]; omega, fun D0 H1 s1 n1 hD0 => ?_⟩⟩
    have hk0 : UW.Kn fl (leadT sg ms tg) sg.length ms.length 0 (UW.num ((List.range ms.length).map fl)) := UW.kn_zero (by rw [List.length_map, List.length_range]) fun i hi => by rw [List.getElem?_map, List.getElem?_range hi]; rfl
    refine ⟨fun mm σ H' => ∃ (p : Addr) (g : List Nat) (kk : Nat) (s3 s4 s5 s6 : Option V), mm = ms.length + 1 - (UW.firsts g).length ∧ σ = [some (.ref pt), some (.ref pf), some (.ref p), s3, s4, s5, s6] ∧ Same H H' ∧ H p = none ∧ H' p = some (.lst (g.map fun (k : Nat) => V.int (k : Nat))) ∧ UW.Kn fl (leadT sg ms tg) sg.length ms.length kk g,
      ⟨_, D0, _, 0, none, none, none, none, rfl, rfl, s1, n1, hD0, hk0⟩, ?_⟩
    rintro mm σ H2 ⟨p, g, kk, s3, s4, s5, s6, rfl, rfl, s2, n2, hp, hk⟩
    refine ⟨true, rfl, ?_⟩
    refine iteB rfl ⟨fun σ' H' => ∃ (p : Addr) (g' : List Nat) (s3 s4 s5 s6 : Option V), (UW.firsts g).length < (UW.firsts g').length ∧ (UW.firsts g').length ≤ ms.length ∧ σ' = [some (.ref pt), some (.ref pf), some (.ref p), s3, s4, s5, s6] ∧ Same H H' ∧ H p = none ∧ H' p = some (.lst (g'.map fun (k : Nat) => V.int (k : Nat))) ∧ UW.Kn fl (leadT sg ms tg) sg.length ms.length (kk + 1) g',
      fun σ' H' ⟨p, g', s3, s4, s5, s6, hlt, hle, a1, a2, a3, a4, a5⟩ => ⟨ms.length + 1 - (UW.firsts g').length, by omega, p, g', kk + 1, s3, s4, s5, s6, rfl, a1, a2, a3, a4, a5⟩, ?_⟩
    have hgl := hk.len
    have ht2 : TabAt sg ms tg pt ra H2 := ht.ext (extN_same s2)
    have hlenr : (ms.map fun x => V.ref (ra x)).length = ms.length := List.length_map _
    have hleng : (g.map fun (k : Nat) => V.int (k : Nat)).length = ms.length := by rw [List.length_map, hgl]
    refine ⟨_, rfl, _, rfl, _, _, .lst p, .lst pt, rfl, rfl, rfl, ⟨_, SqL.of hp⟩, ⟨_, SqL.of ht2.1⟩, fun D hD => ?_⟩
    refine lc_keepH (n := min (g.map fun (k : Nat) => V.int (k : Nat)).length (ms.map fun x => V.ref (ra x)).length) keep_same (walk_zipX (K := K) (S1 := .lst p) (S2 := .lst pt) (xs := g.map fun (k : Nat) => V.int (k : Nat)) (ys := ms.map fun x => V.ref (ra x))) hD (by rw [hleng, hlenr, Nat.min_self]; exact small1000 (by omega))
      (fun j y H => ∃ t u, y = .ref t ∧ H t = some (.tup [.int ((pairN sg ms tg g j).1 : Nat), .ref u]) ∧ H u = some (.tup (tI (pairN sg ms tg g j).2))) (fun H r => ⟨SqL.of (r _ _ hp), SqL.of (r _ _ ht2.1)⟩) (fun _ _ _ _ _ r ⟨t, u, e, h, h'⟩ => ⟨t, u, e, r _ _ h, r _ _ h'⟩)
      (fun _ _ _ _ _ _ hDa ⟨t, u, e, h, h'⟩ => ⟨t, u, e, by rw [upd_ne (ne_of h hDa (by intro h; cases h))]; exact h, by rw [upd_ne (ne_of h' hDa (by intro h; cases h))]; exact h'⟩) (fun i x H3 H4 acc R hi r hDa hy hR => ?_) (fun ys H3 hly hg r hDs => ?_)
    · rw [hleng, hlenr, Nat.min_self] at hi
      obtain ⟨t, x1, x2, rfl, ht', rfl, e1, e2⟩ := hy
      obtain rfl : V.int ((pairN sg ms tg g i).1 : Nat) = x1 := by
        have e1 : (g.map fun (k : Nat) => V.int (k : Nat))[i]? = some x1 := e1
        rw [List.getElem?_map, UW.get_getD (by rw [hgl]; exact hi)] at e1
        exact Option.some.inj e1
      obtain ⟨x, f1, f2, _⟩ := (ht2.ext (extN_same r)).get hi (show 0 < sg.length by have := hgd.hsg.2.1; omega)
      have hall : ∀ c, c < sg.length → (tabI sg ms tg x)[c]? = some (.int (leadT sg ms tg i c : Nat)) := fun c hc => by
        obtain ⟨x', f1', f2', f3'⟩ := (ht2.ext (extN_same r)).get hi hc
        rw [List.getElem?_map] at f1 f1'
        cases q : ms[i]? with
        | none => rw [q] at f1; cases f1
        | some y =>
          have hy : y = ms.getD i [] := (getD_of q).symm
          have hxx : tabI sg ms tg x = tabI sg ms tg x' := by
            rw [f1'] at f1
            have := V.ref.inj (Option.some.inj f1)
            rw [this] at f2'
            rw [f2] at f2'
            first | exact HO.lst.inj (Option.some.inj f2') | exact (HO.lst.inj (Option.some.inj f2')).symm
          rw [hxx]; exact f3'
      obtain rfl : V.ref (ra x) = x2 := by
        have e2 : (ms.map fun x => V.ref (ra x))[i]? = some x2 := e2
        rw [f1] at e2
        exact Option.some.inj e2
      have sT : Same H3 (upd H3 t (.tup [.int ((pairN sg ms tg g i).1 : Nat), .ref (ra x)])) := sm_new ht'
      refine ⟨t, _, rfl, .inl (.inl upd_same), rfl, _, _, rfl, _, _, rfl, rfl, rfl, ?_⟩
      generalize upd H3 t (.tup [.int ((pairN sg ms tg g i).1 : Nat), .ref (ra x)]) = H4 at sT
      have hp4 := sT _ _ (r _ _ hp)
      have hra4 := sT _ _ f2
      have hlt : (tabI sg ms tg x).length = sg.length := by unfold tabI; rw [List.length_map]
      refine ⟨_, rfl, _, rfl, ra x, rfl, ⟨_, SqL.of hra4⟩, fun D2 hD2 => ?_⟩
      refine lc_keep keep_same (walk_list (K := K) (a := ra x) (xs := tabI sg ms tg x)) hD2 (by rw [hlt]; exact small1000 (by omega)) (fun j y => y = .int (g.getD (leadT sg ms tg i j) 0 : Nat)) (fun H r => SqL.of (r _ _ hra4)) (fun j z H5 H6 R2 hj r5 hy hR2 => ?_) (fun zs H5 hlz hgz r5 hDz => ?_)
      · obtain ⟨rfl, ex⟩ := hy
        rw [hlt] at hj
        rw [hall j hj] at ex
        obtain rfl := Option.some.inj ex
        refine ⟨rfl, ?_⟩
        refine ⟨_, rfl, _, rfl, p, _, _, .int (g.getD (leadT sg ms tg i j) 0 : Nat), rfl, rfl, SqL.of (r5 _ _ hp4), atI_nat (by rw [List.getElem?_map, UW.get_getD (by rw [hgl]; exact hll i j hi hj)]; rfl), ?_⟩
        exact hR2 _ _ (Same.refl _) rfl
      · have ez : zs = tI (pairN sg ms tg g i).2 := by
          unfold tI pairN
          dsimp only
          rw [List.map_map]
          exact list_of (by rw [hlz, hlt]) hgz
        subst ez
        refine ⟨D2, _, rfl, .inl ⟨SqL.of hDz, fun u hu => ?_⟩⟩
        refine ⟨by show 2 ≤ sizeLine; decide, fun t2 ht2' => ?_⟩
        have su : Same H5 (upd H5 u (.tup (tI (pairN sg ms tg g i).2))) := sm_new hu
        exact hR _ _ ((sT.trans r5).trans (su.trans (sm_new ht2'))) ⟨t2, u, rfl, upd_same, sm_new ht2' _ _ upd_same⟩
    · rw [hleng, hlenr, Nat.min_self] at hly
      have h2 : ∀ i, i < ms.length → ∃ v : Addr, ys[i]? = some (.ref v) ∧ ∃ u, H3 v = some (.tup [.int ((pairN sg ms tg g i).1 : Nat), .ref u]) ∧ H3 u = some (.tup (tI (pairN sg ms tg g i).2)) := fun i hi => by
        obtain ⟨t, u, e, a1, a2⟩ := hg i _ (List.getElem?_eq_getElem (by rw [hly]; exact hi))
        exact ⟨t, by rw [List.getElem?_eq_getElem (by rw [hly]; exact hi), e], u, a1, a2⟩
      obtain ⟨ad, had⟩ := fun_of (γ := Addr) (List.nodup_range (n := ms.length)) (P := fun j i v => ys[i]? = some (.ref v) ∧ ∃ u, H3 v = some (.tup [.int ((pairN sg ms tg g i).1 : Nat), .ref u]) ∧ H3 u = some (.tup (tI (pairN sg ms tg g i).2))) fun j i hj => h2 i (by have := List.mem_range.mp (List.mem_of_getElem? hj); exact this)
      have had2 : ∀ i, i < ms.length → ys[i]? = some (.ref (ad i)) ∧ ∃ u, H3 (ad i) = some (.tup [.int ((pairN sg ms tg g i).1 : Nat), .ref u]) ∧ H3 u = some (.tup (tI (pairN sg ms tg g i).2)) := fun i hi => had i i (List.getElem?_range hi)
      have eys : ys = ((List.range ms.length).map fun i => (keyN (pairN sg ms tg g i), ad i)).map fun q => V.ref q.2 := by
        rw [List.map_map]
        exact list_of hly fun j y e => by
          have := (had2 j (by rw [← hly]; exact (List.getElem?_eq_some_iff.mp e).1)).1
          rw [e] at this
          exact Option.some.inj this
      refine .inr ⟨D, (List.range ms.length).map fun i => (keyN (pairN sg ms tg g i), ad i), rfl, SqL.of (by rw [← eys]; exact hDs), by rw [List.length_map, List.length_range]; omega, fun q hq => ?_, fun D4 H4 s4 n4 hD4 => ?_⟩
      · obtain ⟨i, hi, rfl⟩ := List.mem_map.mp hq
        obtain ⟨_, u, a1, a2⟩ := had2 i (List.mem_range.mp hi)
        exact ⟨nk_key a1 a2, keyN_depth _⟩
      · rw [List.map_map] at hD4
        have hk' : UW.Kn fl (leadT sg ms tg) sg.length ms.length (kk + 1) (UW.num ((List.range ms.length).map ((fun q : NestedKey × Addr => q.1) ∘ fun i => (keyN (pairN sg ms tg g i), ad i)))) :=
          UW.kn_next hk hll (by rw [List.length_map, List.length_range]) keyN_inj fun i hi => by rw [List.getElem?_map, List.getElem?_range hi]; rfl
        generalize UW.num ((List.range ms.length).map ((fun q : NestedKey × Addr => q.1) ∘ fun i => (keyN (pairN sg ms tg g i), ad i))) = g' at hD4 hk'
        have s24 : Same H2 H4 := r.trans s4
        have hp4 := s24 _ _ hp
        have hpos : ∀ {k : Nat} {g : List Nat}, UW.Kn fl (leadT sg ms tg) sg.length ms.length k g → 0 < (g.map fun (k : Nat) => (k : Int)).length := fun h => by rw [List.length_map, h.len]; omega
        refine ⟨_, rfl, D4, g'.map fun (k : Nat) => (k : Int), rfl, by rw [← intsV]; exact SqL.of hD4, hpos hk', fun m1 hm1 hx1 => ?_⟩
        refine ⟨_, rfl, p, g.map fun (k : Nat) => (k : Int), rfl, by rw [← intsV]; exact SqL.of hp4, hpos hk, fun m2 hm2 hx2 => ?_⟩
        have em1 := hk'.max hm1 hx1
        have em2 := hk.max hm2 hx2
        refine ⟨rfl, ?_⟩
        rw [dec_int, em1, em2]
        have e04 : Same H H4 := s2.trans s24
        by_cases e : (UW.firsts g').length = (UW.firsts g).length
        · refine ⟨true, by rw [e]; exact congrArg V.bl (beq_iff_eq.mpr rfl), ?_⟩
          refine iteB rfl ⟨_, rfl, ?_⟩
          exact k D4 g' H4 e04 (by
            cases q : H D4 with
            | none => rfl
            | some o => rw [(s2.trans r) _ _ q] at n4; cases n4) hD4 hk'.len hk'.can (hk.stop hk' hll e)
        · refine ⟨false, congrArg V.bl (beq_eq_false_iff_ne.mpr fun z => e (by omega)), ?_⟩
          refine iteN rfl ?_
          obtain ⟨g1, g2⟩ := hk.grow hk' e
          refine ⟨_, rfl, D4, g', _, _, _, _, g1, g2, rfl, e04, ?_, hD4, hk'⟩
          cases q : H D4 with
          | none => rfl
          | some o => rw [(s2.trans r) _ _ q] at n4; cases n4
end
end Toy
set_option maxHeartbeats 4000000
namespace Toy
open PySem L2 C8 SX LX
section
variable {P : Program} {w : World} {K : PySem.W.Frag} {mg : Str → Option Value} {base : Heap}
inductive LotY (K : PySem.W.Frag) (H : Hp) : V → Option (List (Option (List Nat))) → Prop
  | no {v : V} {t : Value} (ty : TyX K H v t) (h : PySem.W.kitAny K t [.type "list", .type "tuple"] = some false) : LotY K H v none
  | seq {p : Addr} {b : Bool} {xs : List V} {os : List (Option (List Nat))} (h : SqB K b H p xs) (hl : xs.length = os.length) (h60 : os.length < 60) (hk : ∀ (i : Nat) x o, xs[i]? = some x → os[i]? = some o → Kv K H x o) (hn : b = true ∨ ∀ ls : List (List Nat), os = ls.map some → ls.Nodup) : LotY K H (.ref p) (some os)
theorem LotY.same {K : PySem.W.Frag} {H H' : Hp} {v : V} {o : Option (List (Option (List Nat)))} (h : LotY K H v o) (s : Same H H') : LotY K H' v o := by
  cases h with
  | no ty h => exact .no (ty_same s ty) h
  | seq h hl h60 hk hn => exact .seq (h.same s) hl h60 (fun i x o e1 e2 => kv_same s (hk i x o e1 e2)) hn
def LotOk (ms : List (List Nat)) (o : Option (List (Option (List Nat)))) (ls : List (List Nat)) : Prop := o = some (ls.map some) ∧ (∀ l ∈ ls, l ∈ ms) ∧ ls.Nodup
abbrev s_islot : Stmt := top 31
abbrev n_islot : List Str := ["reader", "value", "mark"]
theorem sc_islot : FnScope n_islot ["reader", "value"] (fnScope s_islot) := fnScope_by (by decide +kernel)
def spIsLot (K : PySem.W.Frag) (C : Addr) : Sp := fun vs H Q _ => ∃ (a : Addr) (v : V) (sg : List Nat) (ms : List (List Nat)) (f : List Nat) (tg : List Nat → Nat → List Nat) (o : Option (List (Option (List Nat)))), vs = [.ref a, v] ∧ Rdr C H a sg ms f tg ∧ LotY K H v o ∧
  ∀ (b : Bool) (H' : Hp), (b = true ↔ ∃ ls, LotOk ms o ls) → Same H H' → Q (.bl b) H'
theorem cnt_nodup : ∀ {xs : List Str} {n : Nat}, n ≤ xs.length → (xs.take n).Nodup → cntT xs n = n := by
  intro xs n
  induction n with
  | zero => intro _ _; rfl
  | succ n ih =>
    intro hn nd
    have hx : xs[n]? = some xs[n] := List.getElem?_eq_getElem (by omega)
    rw [take_more hx, List.nodup_append] at nd
    rw [← cntT_succ hx, ih (by omega) nd.1, if_neg]
    intro h
    exact nd.2.2 _ (of_decide_eq_true h) _ List.mem_cons_self rfl
theorem cnt_eq : ∀ {xs : List Str} {n : Nat}, n ≤ xs.length → cntT xs n = n → (xs.take n).Nodup := by
  intro xs n
  induction n with
  | zero => intro _ _; simp
  | succ n ih =>
    intro hn e
    have hx : xs[n]? = some xs[n] := List.getElem?_eq_getElem (by omega)
    rw [← cntT_succ hx] at e
    have hle := cntT_le xs n
    by_cases h : xs[n] ∈ xs.take n
    · rw [if_pos (decide_eq_true h)] at e; omega
    · rw [if_neg (by rw [decide_eq_false h]; exact Bool.false_ne_true)] at e
      rw [take_more hx, List.nodup_append]
      refine ⟨ih (by omega) (by omega), by simp, fun a ha b hb e => ?_⟩
      rw [List.mem_singleton] at hb
      subst hb; subst e
      exact h ha
theorem lot_texts {K : PySem.W.Frag} {H : Hp} {ms : List (List Nat)} : ∀ {xs : List V} {os : List (Option (List Nat))}, xs.length = os.length → (∀ (i : Nat) x o, xs[i]? = some x → os[i]? = some o → Kv K H x o) → (∀ o ∈ os, markO ms o = true) → ∃ ls, os = ls.map some ∧ xs = txs ls ∧ ∀ l ∈ ls, l ∈ ms
  | [], [], _, _, _ => ⟨[], rfl, rfl, fun _ h => nomatch h⟩
  | x :: xs, o :: os, hl, hk, hm => by
    obtain ⟨ls, e1, e2, e3⟩ := lot_texts (xs := xs) (os := os) (by simpa using hl) (fun i x o h1 h2 => hk (i + 1) x o h1 h2) fun o ho => hm o (List.mem_cons_of_mem _ ho)
    have h0 := hk 0 x o rfl rfl
    have m0 := hm o List.mem_cons_self
    cases h0 with
    | no _ _ => cases m0
    | txt l =>
      refine ⟨l :: ls, by rw [e1]; rfl, by rw [e2]; rfl, fun z hz => ?_⟩
      rcases List.mem_cons.mp hz with rfl | hz
      · exact of_decide_eq_true m0
      · exact e3 z hz
  | [], _ :: _, hl, _, _ => by simp at hl
  | _ :: _, [], hl, _, _ => by simp at hl
theorem nodup_S' {xs : List (List Nat)} : (xs.map S).Nodup ↔ xs.Nodup := by
  constructor
  · intro h; exact h.of_map S fun a b n e => n (by rw [e])
  · exact nodup_S
theorem ok_islot {C : Addr} (T : BT mg) (CH : CR K C) (c_isseq : Cal P w K mg base 1 "is_sequence" (spIsSeqY K) []) (c_ismark : Cal P w K mg base 1 "is_mark" (spIsMarkD K C) []) {f : Addr} {fd : FuncData} (F : Def K mg "is_lot" s_islot f fd) (b : Binds K fd ["reader", "value"] []) : Cal P w K mg base 2 "is_lot" (spIsLot K C) [] := by
  refine cal0 F b .nil sc_islot (fun vs H Q E h => ?_) (fun cdv A outer s H vs Q E hr h => ?_)
  · obtain ⟨a, v, _, _, _, _, _, rfl, _⟩ := h; rfl
  · obtain ⟨a, v, sg, ms, f, tg, o, rfl, hrd, hv, k⟩ := h
    refine ⟨_, (pss_cons (ps_if (PW.pt (pw_or (pt_not (pt_val (pe_c c_isseq hr (by first | decide | omega) (by rfl) (pa_cons (pv 1) pa_nil)))) (pw_or1 (pt_not (pt_val (pe_callB (cr_all rfl) (by rfl) T.m_all PyProof.Rows.boot_all (pa_cons (pe_lc (own := [("mark", 2)]) rfl sc_islot.nd (pi_seq (pv 1)) (blkOk_by (N := n_islot) (sc := fnScope s_islot) (by decide +kernel)) (fun _ _ _ _ _ => (pg_name (i := 2) sc_islot.nd rfl (.inl rfl))) (fun _ _ _ _ _ => pts_nil) (fun _ _ _ _ _ => (pe_c c_ismark hr (by first | decide | omega) (by rfl) (pa_cons (pv 0) (pa_cons (pv 2) pa_nil))))) pa_nil))))))) 
        (pss_one (ps_ret pe_bl)
        )
       pss_nil)
      (pss_one (ps_ret (pe_cmpR op_eq (pe_orE (pe_lenSetT rfl (by rfl) T.m_len (by rfl) T.m_set (pv 1)) (pe_lenSetG rfl (by rfl) T.m_len (by rfl) T.m_set (pv 1))) (pe_callB (lenK K) (by rfl) T.m_len PySem.boot_len (pa_cons (pv 1) pa_nil)) (nomark _)))
      )), ?_⟩
    cases hv with
    | no ty hk =>
      refine ⟨_, rfl, v, _, false, rfl, fun H' s' => ty_same s' ty, hk, fun H' s' => ?_⟩
      refine ⟨_, rfl, iteB rfl (k false H' ⟨fun h => (nomatch h), fun ⟨ls, h, _⟩ => by cases h⟩ s')⟩
    | @seq p b xs os h hl h60 hk hn =>
      have hty2 : ∃ t, (∀ H', Same H H' → TyX K H' (.ref p) t) ∧ PySem.W.kitAny K t [.type "list", .type "tuple"] = some true := by
        cases b with
        | true => exact ⟨_, fun H' s' => ty_seqL (h.same s'), kit_list⟩
        | false => exact ⟨_, fun H' s' => ty_seqT (h.same s'), kit_tuple⟩
      obtain ⟨t, ht1, ht2⟩ := hty2
      refine ⟨_, rfl, .ref p, t, true, rfl, ht1, ht2, fun H1 s1 => ?_⟩
      refine ⟨_, rfl, iteN rfl ?_⟩
      have hq1 := h.same s1
      refine ⟨_, rfl, p, b, xs, rfl, hq1, fun D hD => lc_keep keep_same (walk_seq (K := K) (b := b) (a := p) (xs := xs)) hD (by rw [hl]; exact small1000 (by omega)) (fun j y => ∀ x, os[j]? = some x → y = .bl (markO ms x)) (fun H2 r => hq1.same r) (fun i x H2 H3 R hii r1 hy hR => ?_) (fun ys H2 hly hg r1 hDs => ?_)⟩
      · obtain ⟨rfl, e⟩ := hy
        have hio : i < os.length := by rw [← hl]; exact hii
        have eo : os[i]? = some os[i] := List.getElem?_eq_getElem hio
        refine ⟨rfl, ?_⟩
        refine ⟨_, rfl, _, rfl, a, sg, ms, f, tg, x, os[i], rfl, hrd.same (s1.trans r1), kv_same (s1.trans r1) (hk i x _ e eo), ?_⟩
        exact hR _ _ (Same.refl _) fun z hz => by rw [eo] at hz; cases hz; rfl
      · have eb : ys = (os.map fun x => markO ms x).map V.bl := by
          rw [List.map_map]
          refine list_map (hly.trans hl) fun j y x e1 e2 => hg j y e1 x e2
        refine ⟨D, os.map fun x => markO ms x, rfl, SqL.of (by rw [← eb]; exact hDs), ?_⟩
        have hq2 := hq1.same r1
        have s2 := s1.trans r1
        cases ea : (os.map fun x => markO ms x).all id with
        | false =>
          refine ⟨_, rfl, iteB rfl ?_⟩
          refine k false H2 ⟨fun h => (nomatch h), fun ⟨ls, h1, h2, _⟩ => ?_⟩ s2
          have h1 := Option.some.inj h1
          rw [List.all_eq_false] at ea
          obtain ⟨bb, hb, hn⟩ := ea
          obtain ⟨x, hx, rfl⟩ := List.mem_map.mp hb
          rw [h1] at hx
          obtain ⟨l, hl', rfl⟩ := List.mem_map.mp hx
          exact absurd (decide_eq_true (h2 l hl')) hn
        | true =>
          have hall : ∀ o ∈ os, markO ms o = true := fun o ho => List.all_eq_true.mp ea _ (List.mem_map.mpr ⟨o, ho, rfl⟩)
          obtain ⟨ls, e1, e2, e3⟩ := lot_texts hl hk hall
          subst e1
          subst e2
          rw [List.length_map] at h60
          refine ⟨_, rfl, iteN rfl ?_⟩
          have fin : ∀ (n : Nat), ((decide (V.int (n : Nat) = V.int ((txs ls).length : Nat))) = true ↔ ls.Nodup) → Q (.bl (decide (V.int (n : Nat) = V.int ((txs ls).length : Nat)))) H2 := fun n hn => by
            refine k _ H2 (hn.trans ⟨fun h => ⟨ls, rfl, e3, h⟩, fun ⟨ls', h1, _, h3⟩ => ?_⟩) s2
            have : ls = ls' := by
              have h1 := Option.some.inj h1
              exact List.map_inj_right (fun x y e => Option.some.inj e) |>.mp h1
            rw [this]; exact h3
          have hdec : ∀ n : Nat, (decide (V.int (n : Nat) = V.int ((txs ls).length : Nat)) = true ↔ n = ls.length) := fun n => by
            rw [decide_eq_true_eq, txs_len]
            exact ⟨fun h => by have := V.int.inj h; omega, fun h => by rw [h]⟩
          cases b with
          | false =>
            have nd : ls.Nodup := (hn.resolve_left (by simp)) ls rfl
            refine .inl ⟨_, rfl, p, ls, rfl, .inr hq2, h60, nd, ?_⟩
            refine ⟨_, rfl, p, _, rfl, .inr hq2, rfl, ?_⟩
            exact fin _ ((hdec _).trans ⟨fun _ => nd, fun _ => rfl⟩)
          | true =>
            refine .inr ⟨_, rfl, p, ls, rfl, hq2, h60, ?_⟩
            refine ⟨_, rfl, p, _, rfl, .inl hq2, rfl, ?_⟩
            refine fin _ ((hdec _).trans ?_)
            have hlen : (ls.map S).length = ls.length := List.length_map ..
            rw [← nodup_S']
            constructor
            · intro h
              have := cnt_eq (xs := ls.map S) (n := ls.length) (by rw [hlen]; exact Nat.le_refl _) h
              rwa [← hlen, List.take_length] at this
            · intro h
              exact cnt_nodup (by rw [hlen]; exact Nat.le_refl _) (by rw [← hlen, List.take_length]; exact h)
end
end Toy
set_option maxHeartbeats 4000000
namespace Toy
open PySem L2 C8 SX LX
section
variable {P : Program} {w : World} {K : PySem.W.Frag} {mg : Str → Option Value} {base : Heap}
abbrev s_chlot : Stmt := top 32
abbrev n_chlot : List Str := ["reader", "lot"]
theorem sc_chlot : FnScope n_chlot ["reader", "lot"] (fnScope s_chlot) := fnScope_by (by decide +kernel)
def spChLot (K : PySem.W.Frag) (C CL : Addr) : Sp := fun vs H Q E => ∃ (a : Addr) (v : V) (sg : List Nat) (ms : List (List Nat)) (f : List Nat) (tg : List Nat → Nat → List Nat) (o : Option (List (Option (List Nat)))), vs = [.ref a, v] ∧ Rdr C H a sg ms f tg ∧ LotY K H v o ∧
  (((∃ ls, LotOk ms o ls) ∧ ∀ H', Same H H' → Q .non H') ∨ ((¬ ∃ ls, LotOk ms o ls) ∧ ∀ H', Same H H' → E (.ref CL) none H'))
theorem ok_chlot {C CL : Addr} (T : BT mg) (x_InvalidLot : XN K mg "InvalidLot" CL) (c_islot : Cal P w K mg base 2 "is_lot" (spIsLot K C) []) {f : Addr} {fd : FuncData} (F : Def K mg "check_lot" s_chlot f fd) (b : Binds K fd ["reader", "lot"] []) : CalX P w K mg base 3 "check_lot" (spChLot K C CL) := by
  refine ⟨f, fd, _, fnX F.fn sc_chlot (fun vs H Q E h => ?_) (fun cdv A outer s H vs Q E hr h => ?_), F.mgf, F.kp, b⟩
  · obtain ⟨a, v, _, _, _, _, _, rfl, _⟩ := h; rfl
  · obtain ⟨a, v, sg, ms, f, tg, o, rfl, hrd, hv, h⟩ := h
    refine ⟨_, (pss_one (ps_if (pt_not (pt_val (pe_c c_islot hr (by first | decide | omega) (by rfl) (pa_cons (pv 0) (pa_cons (pv 1) pa_nil))))) 
        (pss_one (ps_raise rfl (takes_of rfl rfl rfl rfl) (pmk_own0 PySem.F.excBase_ValueError x_InvalidLot.q x_InvalidLot.g x_InvalidLot.k x_InvalidLot.r (by rfl)))
        )
       pss_nil)
      ), ?_⟩
    refine ⟨_, rfl, _, rfl, a, v, sg, ms, f, tg, o, rfl, hrd, hv, fun bb H1 hb s1 => ?_⟩
    rcases h with ⟨h, k⟩ | ⟨h, k⟩
    · obtain rfl : bb = true := hb.mpr h
      refine ⟨_, rfl, iteN rfl ?_⟩
      exact k H1 s1
    · obtain rfl : bb = false := by
        cases bb with
        | false => rfl
        | true => exact absurd (hb.mp rfl) h
      refine ⟨_, rfl, iteB rfl ?_⟩
      exact k H1 s1
abbrev s_groups : Stmt := top 37
abbrev n_groups : List Str := ["reader", "lot"]
theorem sc_groups : FnScope n_groups ["reader", "lot"] (fnScope s_groups) := fnScope_by (by decide +kernel)
def Kinds (sg : List Nat) (ms : List (List Nat)) (tg : List Nat → Nat → List Nat) (ls : List (List Nat)) (g : List Nat) : Prop := g.length = ms.length ∧ UW.num g = g ∧ ∀ i j, i < ms.length → j < ms.length → (g.getD i 0 = g.getD j 0 ↔ ∀ w, UW.Rw sg.length w → flO ms ls (UW.run (leadT sg ms tg) i w) = flO ms ls (UW.run (leadT sg ms tg) j w))
def spGroups (K : PySem.W.Frag) (C : Addr) : Sp := fun vs H Q _ => ∃ (a q : Addr) (bb : Bool) (sg : List Nat) (ms : List (List Nat)) (f : List Nat) (tg : List Nat → Nat → List Nat) (ls : List (List Nat)), vs = [.ref a, .ref q] ∧ Rdr C H a sg ms f tg ∧ Good sg ms f tg ∧ SqB K bb H q (txs ls) ∧
  ∀ (D : Addr) (g : List Nat) (H' : Hp), Same H H' → H' D = some (.lst (g.map fun (k : Nat) => V.int (k : Nat))) → Kinds sg ms tg ls g → Q (.ref D) H'
theorem ok_groups {C : Addr} (T : BT mg) (c_table : Cal P w K mg base 2 "table_of" (spTable C) []) (c_flags : Cal P w K mg base 1 "flags_of" (spFlags K C) []) (c_alike : Cal P w K mg base 2 "alike_numbers" spAlike []) {f : Addr} {fd : FuncData} (F : Def K mg "_groups" s_groups f fd) (b : Binds K fd ["reader", "lot"] []) : Cal P w K mg base 3 "_groups" (spGroups K C) [] := by
  refine cal0 F b .nil sc_groups (fun vs H Q E h => ?_) (fun cdv A outer s H vs Q E hr h => ?_)
  · obtain ⟨a, q, _, _, _, _, _, _, rfl, _⟩ := h; rfl
  · obtain ⟨a, q, bb, sg, ms, f, tg, ls, rfl, hrd, hgd, hq, k⟩ := h
    refine ⟨_, (pss_one (ps_ret (pe_c c_alike hr (by first | decide | omega) (by rfl) (pa_cons (pe_c c_table hr (by first | decide | omega) (by rfl) (pa_cons (pv 0) pa_nil)) (pa_cons (pe_c c_flags hr (by first | decide | omega) (by rfl) (pa_cons (pv 0) (pa_cons (pv 1) pa_nil))) pa_nil))))
      ), ?_⟩
    refine ⟨_, rfl, a, sg, ms, f, tg, rfl, hrd.to0, hgd, fun tb ra H1 s1 n1 h1 hra => ?_⟩
    refine ⟨_, rfl, _, rfl, a, q, bb, sg, ms, f, tg, ls, rfl, hrd.same s1, hgd, hq.same s1, fun qf H2 s2 n2 h2 => ?_⟩
    refine ⟨tb, qf, sg, ms, f, tg, ra, flO ms ls, rfl, hgd, ⟨s2 _ _ h1, fun x hx => s2 _ _ (hra x hx)⟩, h2, fun D g H3 s3 n3 hD e1 e2 e3 => ?_⟩
    exact k D g H3 ((s1.trans s2).trans s3) hD ⟨e1, e2, e3⟩
abbrev s_classes : Stmt := top 36
abbrev n_classes : List Str := ["reader", "lot", "groups", "number", "mark", "group"]
theorem sc_classes : FnScope n_classes ["reader", "lot"] (fnScope s_classes) := fnScope_by (by decide +kernel)
def rArg : Stmt → Expr
  | .Return (some (.Call _ [e] _ _)) _ => e
  | _ => .Constant .none 0 ⟨0, 0, 0, 0⟩
abbrev ncs_classes : Scope := relS (outS (rArg ((fnBody s_classes).getD 2 (.Pass ⟨0, 0, 0, 0⟩)))) (fnScope s_classes)
def clsN (ms : List (List Nat)) (g : List Nat) (k : Nat) : List (List Nat) := (takenN (fun j => g.getD j 0 == k) ms.length).map fun j => ms.getD j []
def spClasses (K : PySem.W.Frag) (C : Addr) : Sp := fun vs H Q _ => ∃ (a q : Addr) (bb : Bool) (sg : List Nat) (ms : List (List Nat)) (f : List Nat) (tg : List Nat → Nat → List Nat) (ls : List (List Nat)), vs = [.ref a, .ref q] ∧ Rdr C H a sg ms f tg ∧ Good sg ms f tg ∧ SqB K bb H q (txs ls) ∧ (∀ l ∈ ls, l ∈ ms) ∧ ls.Nodup ∧
  ∀ (p : Addr) (ps : List Addr) (g : List Nat) (H' : Hp), Same H H' → H' p = some (.tup (ps.map V.ref)) → Kinds sg ms tg ls g → ps.length = (UW.firsts g).length → (∀ (k : Nat) a, ps[k]? = some a → H' a = some (.tup (txs (clsN ms g k)))) → Q (.ref p) H'
theorem lotY_of {H : Hp} {q : Addr} {bb : Bool} {ls : List (List Nat)} (h : SqB K bb H q (txs ls)) (h60 : ls.length < 60) (nd : ls.Nodup) : LotY K H (.ref q) (some (ls.map some)) :=
  .seq h (by rw [txs_len, List.length_map]) (by rw [List.length_map]; exact h60) (fun i x o e1 e2 => by
    obtain ⟨l, hl, rfl⟩ := txs_get e1
    rw [List.getElem?_map, hl] at e2
    cases e2
    exact .txt l) (.inr fun ls' e => by
    have : ls = ls' := (List.map_inj_right (fun x y e => Option.some.inj e)).mp e
    rw [← this]; exact nd)
theorem ok_classes {C CL : Addr} (T : BT mg) (CH : CR K C) (c_chlot : CalX P w K mg base 3 "check_lot" (spChLot K C CL)) (c_groups : Cal P w K mg base 3 "_groups" (spGroups K C) []) {f : Addr} {fd : FuncData} (F : Def K mg "classes" s_classes f fd) (b : Binds K fd ["reader", "lot"] []) : Cal P w K mg base 4 "classes" (spClasses K C) [] := by
  refine cal0 F b .nil sc_classes (fun vs H Q E h => ?_) (fun cdv A outer s H vs Q E hr h => ?_)
  · obtain ⟨a, q, _, _, _, _, _, _, rfl, _⟩ := h; rfl
  · obtain ⟨a, q, bb, sg, ms, f, tg, ls, rfl, hrd, hgd, hq, hls, hnd, k⟩ := h
    refine ⟨_, (pss_cons (ps_expr (pe_cX c_chlot takes_none5 hr (by first | decide | omega) (by rfl) (pa_cons (pv 0) (pa_cons (pv 1) pa_nil))))
      (pss_cons (ps_set (i := 2) sc_classes.nd rfl (.inr rfl) (pe_c c_groups hr (by first | decide | omega) (by rfl) (pa_cons (pv 0) (pa_cons (pv 1) pa_nil))))
      (pss_one (ps_ret (pe_callTy (tupleK K) (by rfl) T.m_tuple PyProof.Rows.boot_tuple (pa_cons (pe_lc (own := [("number", 3)]) rfl sc_classes.nd (pi_range1 (by rfl) T.m_range (pa_cons (pe_op op_add (pe_callB (cr_max rfl) (by rfl) T.m_max PyProof.Rows.boot_max (pa_cons (pv 2) pa_nil)) pe_int) pa_nil)) (blkOk_by (N := n_classes) (sc := fnScope s_classes) (by decide +kernel)) (fun _ _ _ _ _ => (pg_name (i := 3) sc_classes.nd rfl (.inr rfl))) (fun _ _ _ _ _ => pts_nil) (fun _ _ _ _ _ => (pe_callTy (tupleK K) (by rfl) T.m_tuple PyProof.Rows.boot_tuple (pa_cons (pe_lc (own := [("mark", 4), ("group", 5)]) rfl sc_classes.nd (pi_zipXK K (by rfl) T.m_zip (pa_cons (fldK K (pv 0) rfl) (pa_cons (pv 2) pa_nil))) (blkOk_by (N := n_classes) (sc := ncs_classes) (by decide +kernel)) (fun _ _ _ _ _ => (tupK K 2 (pgs_cons (pg_name (i := 4) sc_classes.nd rfl (.inl rfl)) (pgs_cons (pg_name (i := 5) sc_classes.nd rfl (.inl rfl)) pgs_nil)))) (fun _ _ _ _ _ => pts_one (pt_cmpR op_eq (pv 5) (pv 3) (nomark _))) (fun _ _ _ _ _ => (pv 4))) pa_nil)))) pa_nil)))
      ))), ?_⟩
    have h8 := hgd.h8
    have h1 := hgd.h1
    have h60 : ls.length < 60 := by have := UW.sub_len ms ls hnd hls; omega
    refine ⟨_, rfl, _, rfl, a, .ref q, sg, ms, f, tg, some (ls.map some), rfl, hrd, lotY_of hq h60 hnd, .inl ⟨⟨ls, rfl, hls, hnd⟩, fun H1 s1 => ?_⟩⟩
    refine ⟨_, rfl, _, rfl, a, q, bb, sg, ms, f, tg, ls, rfl, hrd.same s1, hgd, hq.same s1, fun D g H2 s2 hD hg => ?_⟩
    have s12 := s1.trans s2
    have hgl := hg.1
    refine ⟨_, rfl, D, g.map fun (k : Nat) => (k : Int), rfl, by rw [← intsV]; exact SqL.of hD, by rw [List.length_map, hgl]; omega, fun mx hmx hxm => ?_⟩
    have emx := UW.can_max hg.2.1 hmx hxm
    subst emx
    have hfl : (UW.firsts g).length ≤ ms.length := by
      have h1 := UW.sub_len (List.range ms.length) (UW.firsts g) (UW.firsts_nodup g) fun x hx => by
        have hx' := hx
        rw [UW.can_range hg.2.1, List.mem_range] at hx'
        obtain ⟨i, hi⟩ := List.getElem?_of_mem (UW.firsts_mem.mp hx)
        have := UW.num_lt (xs := g) (k := x) (by rw [hg.2.1]; exact UW.firsts_mem.mp hx)
        rw [List.mem_range]
        have hle : (UW.firsts g).length ≤ g.length := by
          have := (UW.firsts_nodup g)
          rcases Nat.lt_or_ge g.length (UW.firsts g).length with z | z
          · have hsub := UW.sub_len g (UW.firsts g) this fun y hy => UW.firsts_mem.mp hy
            omega
          · exact z
        omega
      rw [List.length_range] at h1
      exact h1
    have hn : (((UW.firsts g).length : Int) - 1 + 1).toNat = (UW.firsts g).length := by omega
    refine ⟨_, _, rfl, rfl, _, rfl, by omega, by omega, fun D1 hD1 => ?_⟩
    rw [hn]
    obtain ⟨dx, m, st, nu, le, sa, la, co, ca, r2, hcol⟩ := hrd.same s12
    have hglV : (g.map fun (k : Nat) => V.int (k : Nat)).length = ms.length := by rw [List.length_map, hgl]
    refine lc_keepH keep_same (walk_range (lo := 0) (n := (UW.firsts g).length)) hD1 (small1000 (by omega)) (fun j y H => ∃ t, y = .ref t ∧ H t = some (.tup (txs (clsN ms g j)))) (fun _ _ => trivial) (fun _ _ _ _ _ r ⟨t, e, h⟩ => ⟨t, e, r _ _ h⟩)
      (fun _ _ _ _ _ _ hDa ⟨t, e, h⟩ => ⟨t, e, by rw [upd_ne (ne_of h hDa (by intro h; cases h))]; exact h⟩) (fun i x H3 H4 acc R hi r hDa hy hR => ?_) (fun ys H3 hly hgd3 r hDs => ?_)
    · obtain ⟨rfl, rfl⟩ := hy
      refine ⟨rfl, ?_⟩
      have hm4 := r _ _ r2.hm
      have hD4 := r _ _ hD
      refine ⟨_, rfl, a, C, dx, _, _, rfl, r _ _ r2.ha, CH.cl, CH.nM, rl_marks, _, rfl, _, _, .tup m, .lst D, rfl, rfl, rfl, ⟨_, SqT.of hm4⟩, ⟨_, SqL.of hD4⟩, fun D2 hD2 => ?_⟩
      refine lc_keepF (n := min (txs ms).length (g.map fun (k : Nat) => V.int (k : Nat)).length) keep_same (walk_zipX (K := K) (S1 := .tup m) (S2 := .lst D) (xs := txs ms) (ys := g.map fun (k : Nat) => V.int (k : Nat))) hD2 (by rw [hglV, txs_len, Nat.min_self]; exact small1000 (by omega)) (fun j => g.getD j 0 == i) (fun j y _ => y = .str (S (ms.getD j [])))
        (fun H r' => ⟨SqT.of (r' _ _ hm4), SqL.of (r' _ _ hD4)⟩) (fun _ _ _ _ _ _ h => h) (fun _ _ _ _ _ _ _ h => h) (fun j z H5 H6 acc2 N R2 hj r5 hDa2 hy hR2 hN2 => ?_) (fun zs H5 hlz hgz r5 hDz => ?_)
      · rw [hglV, txs_len, Nat.min_self] at hj
        obtain ⟨t, x1, x2, rfl, ht, rfl, e1, e2⟩ := hy
        obtain ⟨mm, hmm, rfl⟩ := txs_get (show (txs ms)[j]? = some x1 from e1)
        obtain rfl : V.int (g.getD j 0 : Nat) = x2 := by
          have e2 : (g.map fun (k : Nat) => V.int (k : Nat))[j]? = some x2 := e2
          rw [List.getElem?_map, UW.get_getD (by rw [hgl]; exact hj)] at e2
          exact Option.some.inj e2
        refine ⟨t, _, rfl, .inl (.inl upd_same), rfl, _, _, rfl, _, _, rfl, rfl, rfl, ?_⟩
        refine ⟨_, rfl, _, rfl, rfl, ?_⟩
        have ed : decide (V.int (g.getD j 0 : Nat) = V.int (0 + (i : Int))) = (g.getD j 0 == i) := by
          rw [dec_int]
          rw [Bool.eq_iff_iff, beq_iff_eq, beq_iff_eq]
          omega
        refine ⟨_, rfl, ?_⟩
        rw [ed]
        cases e : (g.getD j 0 == i) with
        | true =>
          refine iteB rfl ⟨_, rfl, ?_⟩
          exact hR2 e _ _ (sm_new ht) (by rw [getD_of hmm])
        | false =>
          refine iteN rfl ?_
          exact hN2 e _ (sm_new ht)
      · rw [hglV, txs_len, Nat.min_self] at hlz hgz
        have ez : zs = txs (clsN ms g i) := by
          unfold txs clsN
          rw [List.map_map]
          exact list_map hlz fun j y c e1 e2 => hgz j c y e2 e1
        subst ez
        refine ⟨D2, _, rfl, .inl ⟨SqL.of hDz, fun u hu => ?_⟩⟩
        exact hR _ _ (r5.trans (sm_new hu)) ⟨u, rfl, upd_same⟩
    · obtain ⟨ps, rfl⟩ : ∃ ps : List Addr, ys = ps.map V.ref := refs_of fun j y e => let ⟨t, e', _⟩ := hgd3 j y e; ⟨t, e'⟩
      refine nil1 ⟨D1, _, rfl, .inl ⟨SqL.of hDs, fun l hl => ?_⟩⟩
      have s3 : Same H3 (upd H3 l (.tup (ps.map V.ref))) := sm_new hl
      refine k l ps g _ ((s12.trans r).trans s3) upd_same hg (by rw [← hly, List.length_map]) fun kk a ha => ?_
      obtain ⟨t, e, h⟩ := hgd3 kk (.ref a) (refs_get ha)
      cases e
      exact s3 _ _ h
end
end Toy
set_option maxHeartbeats 4000000
namespace Toy
open PySem L2 C8 SX LX
section
variable {P : Program} {w : World} {K : PySem.W.Frag} {mg : Str → Option Value} {base : Heap}
abbrev s_parting : Stmt := top 35
abbrev n_parting : List Str := ["reader", "lot", "one", "other", "mark"]
theorem sc_parting : FnScope n_parting ["reader", "lot", "one", "other"] (fnScope s_parting) := fnScope_by (by decide +kernel)
def partR (sg : List Nat) (ms : List (List Nat)) (tg : List Nat → Nat → List Nat) (ls : List (List Nat)) (x y : List Nat) : Option (List Nat) := foundG (partP (flO ms ls) (flO ms ls)) (walkG (leadP (leadT sg ms tg) (leadT sg ms tg)) (partP (flO ms ls) (flO ms ls)) sg (ms.length * ms.length) [ms.idxOf x, ms.idxOf y])
def spParting (K : PySem.W.Frag) (C CL CN : Addr) (TT : List NdefX.NTab) : Sp := fun vs H Q E => ∃ (a : Addr) (v u1 u2 : V) (sg : List Nat) (ms : List (List Nat)) (f : List Nat) (tg : List Nat → Nat → List Nat) (o : Option (List (Option (List Nat)))), vs = [.ref a, v, u1, u2] ∧ Rdr C H a sg ms f tg ∧ Good sg ms f tg ∧ LotY K H v o ∧ NdefX.TabsN TT H ∧
  (((¬ ∃ ls, LotOk ms o ls) ∧ ∀ H', Same H H' → E (.ref CL) none H') ∨
   ∃ (x y : List Nat) (ls : List (List Nat)), LotOk ms o ls ∧ u1 = .str (S x) ∧ u2 = .str (S y) ∧
    ((x ∉ ms ∧ ∀ (d : Addr) (H' : Hp), Same H H' → H' d = some (.xd [("mark", u1)]) → E (.ref CN) (some d) H') ∨
     (x ∈ ms ∧ y ∉ ms ∧ ∀ (d : Addr) (H' : Hp), Same H H' → H' d = some (.xd [("mark", u2)]) → E (.ref CN) (some d) H') ∨
     (x ∈ ms ∧ y ∈ ms ∧ ∀ H', LamX.ExtN H H' → NdefX.TabsN TT H' → Q (optV (partR sg ms tg ls x y)) H')))
theorem lotY_get {H : Hp} {v : V} {ms : List (List Nat)} {o : Option (List (Option (List Nat)))} {ls : List (List Nat)} (h : LotY K H v o) (hl : LotOk ms o ls) : ∃ q bb, v = .ref q ∧ SqB K bb H q (txs ls) := by
  obtain ⟨rfl, h2, h3⟩ := hl
  cases h with
  | @seq p b xs os h hl h60 hk hn =>
    obtain ⟨ls', e1, e2, _⟩ := lot_texts (ms := ms) hl hk fun o ho => by
      obtain ⟨l, hl, rfl⟩ := List.mem_map.mp ho
      exact decide_eq_true (h2 l hl)
    have : ls = ls' := (List.map_inj_right (fun x y e => Option.some.inj e)).mp e1
    subst this
    subst e2
    exact ⟨p, b, rfl, h⟩
theorem ok_parting {C CL CN : Addr} (T : BT mg) (CH : CR K C) {TT : List NdefX.NTab} (c_NoMark : RaiX P w K mg base 1 "NoMark" CN (spXInit CN "mark")) (c_chlot : CalX P w K mg base 3 "check_lot" (spChLot K C CL)) (c_ismark : Cal P w K mg base 1 "is_mark" (spIsMarkD K C) []) (c_m_num : Met P w K mg base 1 C "number_of" (spMNum C) []) (c_partrow : Cal P w K mg base 4 "_parting_row" (spPartRow K C TT) [])
    {f : Addr} {fd : FuncData} (F : Def K mg "parting" s_parting f fd) (b : Binds K fd ["reader", "lot", "one", "other"] []) : CalX P w K mg base 5 "parting" (spParting K C CL CN TT) := by
  refine ⟨f, fd, _, fnX F.fn sc_parting (fun vs H Q E h => ?_) (fun cdv A outer s H vs Q E hr h => ?_), F.mgf, F.kp, b⟩
  · obtain ⟨a, v, u1, u2, _, _, _, _, _, rfl, _⟩ := h; rfl
  · obtain ⟨a, v, u1, u2, sg, ms, f, tg, o, rfl, hrd, hgd, hv, hT, h⟩ := h
    refine ⟨_, (pss_cons (ps_expr (pe_cX c_chlot (takes_of rfl rfl rfl rfl) hr (by first | decide | omega) (by rfl) (pa_cons (pv 0) (pa_cons (pv 1) pa_nil))))
      (pss_cons (ps_for (passes_of rfl) rfl (pi_tup (pe_tup (pa_cons (pv 2) (pa_cons (pv 3) pa_nil)))) (pg_name (i := 4) sc_parting.nd rfl (.inl rfl)) 
        (pss_one (ps_if (pt_not (pt_val (pe_c c_ismark hr (by first | decide | omega) (by rfl) (pa_cons (pv 0) (pa_cons (pv 4) pa_nil))))) 
          (pss_one (ps_raise rfl (takes_of rfl rfl rfl rfl) (pmk_rai c_NoMark hr (by decide) (by rfl) (pa_cons (pv 4) pa_nil)))
          )
         pss_nil)
        ))
      (pss_one (ps_ret (pe_c c_partrow hr (by first | decide | omega) (by rfl) (pa_cons (pv 0) (pa_cons (pv 1) (pa_cons (pv 0) (pa_cons (pv 1) (pa_cons (pe_tup (pa_cons (pe_mt c_m_num hr (by decide) (pv 0) (pa_cons (pv 2) pa_nil)) (pa_cons (pe_mt c_m_num hr (by decide) (pv 0) (pa_cons (pv 3) pa_nil)) pa_nil))) pa_nil)))))))
      ))), ?_⟩
    refine ⟨_, rfl, _, rfl, a, v, sg, ms, f, tg, o, rfl, hrd, hv, ?_⟩
    rcases h with ⟨hn, k⟩ | ⟨x, y, ls, hl, rfl, rfl, h⟩
    · exact .inr ⟨hn, k⟩
    refine .inl ⟨⟨ls, hl⟩, fun H1 s1 => ?_⟩
    refine ⟨_, rfl, _, rfl, by show 2 ≤ sizeLine; decide, fun p hp => ?_⟩
    have s2 : Same H1 (upd H1 p (.tup [.str (S x), .str (S y)])) := sm_new hp
    have hp2 : (upd H1 p (.tup [.str (S x), .str (S y)])) p = some (.tup [.str (S x), .str (S y)]) := upd_same
    generalize upd H1 p (.tup [.str (S x), .str (S y)]) = H2 at s2 hp2
    have s12 := s1.trans s2
    refine ⟨p, rfl, ⟨_, SqT.of hp2⟩, for_it (walk_tup (K := K) (a := p) (xs := [.str (S x), .str (S y)])) (fun i σ H' => ∃ s4 : Option V, σ = [some (.ref a), some v, some (.str (S x)), some (.str (S y)), s4] ∧ H' = H2 ∧ (0 < i → x ∈ ms) ∧ (1 < i → y ∈ ms))
      ⟨none, rfl, rfl, fun h => absurd h (by omega), fun h => absurd h (by omega)⟩ (fun i σ H' _ ⟨_, _, e, _⟩ => by rw [e]; exact SqT.of hp2) ?_ ?_⟩
    · rintro i u σ H3 H3' hi ⟨s4, rfl, rfl, m1, m2⟩ ⟨rfl, e⟩
      have hrd2 := hrd.same s12
      match i, e with
      | 0, e =>
        cases e
        refine ⟨_, rfl, _, rfl, a, sg, ms, f, tg, _, some x, rfl, hrd2, .txt x, ?_⟩
        by_cases hx : x ∈ ms
        · refine ⟨_, rfl, iteN (by show (!decide (x ∈ ms)) = false; rw [decide_eq_true hx]; rfl) ?_⟩
          exact ⟨_, rfl, rfl, fun _ => hx, fun h => absurd h (by omega)⟩
        · refine ⟨_, rfl, iteB (by show (!decide (x ∈ ms)) = true; rw [decide_eq_false hx]; rfl) ?_⟩
          rcases h with ⟨_, k⟩ | ⟨hx', _⟩ | ⟨hx', _⟩
          · exact ⟨_, rfl, by simp, raise_read fun d hd => k d _ (s12.trans (sm_new hd)) upd_same⟩
          · exact absurd hx' hx
          · exact absurd hx' hx
      | 1, e =>
        cases e
        have hx := m1 (by omega)
        refine ⟨_, rfl, _, rfl, a, sg, ms, f, tg, _, some y, rfl, hrd2, .txt y, ?_⟩
        by_cases hy : y ∈ ms
        · refine ⟨_, rfl, iteN (by show (!decide (y ∈ ms)) = false; rw [decide_eq_true hy]; rfl) ?_⟩
          exact ⟨_, rfl, rfl, fun _ => hx, fun _ => hy⟩
        · refine ⟨_, rfl, iteB (by show (!decide (y ∈ ms)) = true; rw [decide_eq_false hy]; rfl) ?_⟩
          rcases h with ⟨hx', k⟩ | ⟨_, _, k⟩ | ⟨_, hy', _⟩
          · exact absurd hx hx'
          · exact ⟨_, rfl, by simp, raise_read fun d hd => k d _ (s12.trans (sm_new hd)) upd_same⟩
          · exact absurd hy' hy
      | n + 2, e => simp at e
    · rintro σ H3 ⟨s4, rfl, rfl, m1, m2⟩
      have hx := m1 (by show 0 < 2; decide)
      have hy := m2 (by show 1 < 2; decide)
      rcases h with ⟨hx', _⟩ | ⟨_, hy', _⟩ | ⟨_, _, k⟩
      · exact absurd hx hx'
      · exact absurd hy hy'
      obtain ⟨q, bb, rfl, hq⟩ := lotY_get hv hl
      have hrd2 := hrd.same s12
      refine ⟨_, rfl, _, rfl, _, rfl, _, rfl, ?_⟩
      obtain ⟨dx, m, st, nu, le, sa, la, co, ca, r, hcol⟩ := id hrd2
      refine ⟨_, rfl, a, dx, _, rfl, r.ha, rdr_no (.inr ⟨co, rfl⟩) (by decide +kernel), _, rfl, a, sg, ms, f, tg, x, rfl, hrd2.to0, hgd.hnd, hx, ?_⟩
      refine ⟨_, rfl, a, dx, _, rfl, r.ha, rdr_no (.inr ⟨co, rfl⟩) (by decide +kernel), _, rfl, a, sg, ms, f, tg, y, rfl, hrd2.to0, hgd.hnd, hy, ?_⟩
      refine ⟨by show 2 ≤ sizeLine; decide, fun pb hpb => ?_⟩
      have s3 : Same H3 (upd H3 pb (.tup [.int (ms.idxOf x : Nat), .int (ms.idxOf y : Nat)])) := sm_new hpb
      have hrd3 := hrd2.same s3
      have hq3 := hq.same (s12.trans s3)
      refine ⟨a, q, a, q, pb, bb, bb, sg, ms, f, tg, ms, f, tg, ls, ls, ms.idxOf x, ms.idxOf y, rfl, hrd3, hrd3, hgd, hgd, hq3, hq3, upd_same, List.idxOf_lt_length_of_mem hx, List.idxOf_lt_length_of_mem hy, hT.ext (s12.trans s3), fun H4 e4 hT4 => ?_⟩
      exact k H4 ((extN_same (s12.trans s3)).trans e4) hT4
end
end Toy
set_option maxHeartbeats 2000000
namespace Toy
open PySem L2 C8 SX LX
section
variable {P : Program} {w : World} {K : PySem.W.Frag} {mg : Str → Option Value} {base : Heap}
abbrev s_made : Stmt := top 47
abbrev n_made : List Str := ["told", "steps", "mark", "sign"]
theorem sc_made : FnScope n_made ["told"] (fnScope s_made) := fnScope_by (by decide +kernel)
abbrev ncs_made : Scope := relS (outS (ofRet ((fnBody s_made).getD 0 (.Pass ⟨0, 0, 0, 0⟩)))) (fnScope s_made)
def spMade (C : Addr) : Sp := fun vs H Q _ => ∃ (a : Addr) (sg : List Nat) (ms : List (List Nat)) (f : List Nat) (tg : List Nat → Nat → List Nat) (pm pl : Addr) (ad : List Nat → Addr), vs = [.ref a] ∧ Told H a sg ms f tg pm pl ad ∧ Good sg ms f tg ∧
  ∀ (p : Addr) (H' : Hp), Same H H' → H p = none → Rdr C H' p sg ms f tg → Q (.ref p) H'
def StepsAt (sg : List Nat) (ms : List (List Nat)) (tg : List Nat → Nat → List Nat) (D : Addr) (sa : List Nat → Addr) (H : Hp) : Prop := H D = some (.lst (ms.map fun x => .ref (sa x))) ∧ ∀ x ∈ ms, H (sa x) = some (.lst (txs (sg.map (tg x))))
theorem ok_made {C : Addr} (T : BT mg) (CH : CR K C) (mgC : mg "Reader" = some (.ref C)) (c_Reader : Mak P w K mg base 5 "Reader" C (spInit C) []) {f : Addr} {fd : FuncData} (F : Def K mg "_law_made" s_made f fd) (b : Binds K fd ["told"] []) : Cal P w K mg base 7 "_law_made" (spMade C) [] := by
  refine cal0 F b .nil sc_made (fun vs H Q E h => ?_) (fun cdv A outer s H vs Q E hr h => ?_)
  · obtain ⟨a, sg, ms, f, tg, pm, pl, ad, rfl, _⟩ := h; rfl
  · obtain ⟨a, sg, ms, f, tg, pm, pl, ad, rfl, t, hgd, k⟩ := h
    have h8 := hgd.h8
    refine ⟨_, (pss_cons (ps_setLc (i := 1) (own := [("mark", 2)]) rfl sc_made.nd rfl rfl rfl (pi_list (pe_dget (hu_of hr) (pv 0) pe_str (fun _ _ => rfl))) (blkOk_by (N := n_made) (sc := fnScope s_made) (by decide +kernel)) (fun _ _ _ _ _ => (pg_name (i := 2) sc_made.nd rfl (.inr rfl))) (fun _ _ _ _ _ => pts_nil) (fun _ _ _ _ _ => (pe_lc (own := [("sign", 3)]) rfl sc_made.nd (pi_str (pe_dget (hu_of hr) (pv 0) pe_str (fun _ _ => rfl))) (blkOk_by (N := n_made) (sc := ncs_made) (by decide +kernel)) (fun _ _ _ _ _ => (pg_name (i := 3) sc_made.nd rfl (.inl rfl))) (fun _ _ _ _ _ => pts_nil) (fun _ _ _ _ _ => (pe_dget (hu_of hr) (pe_dget (hu_of hr) (pe_dget (hu_of hr) (pv 0) pe_str (fun _ _ => rfl)) (pv 2) (fun _ _ => rfl)) (pv 3) (fun _ _ => rfl))))))
      (pss_one (ps_ret (pe_mk c_Reader hr (by decide) (by rfl) (pa_cons (pe_dget (hu_of hr) (pv 0) pe_str (fun _ _ => rfl)) (pa_cons (pe_dget (hu_of hr) (pv 0) pe_str (fun _ _ => rfl)) (pa_cons (pe_dget (hu_of hr) (pv 0) pe_str (fun _ _ => rfl)) (pa_cons (pv 1) pa_nil))))))
      )), ?_⟩
    refine ⟨_, rfl, _, _, rfl, t.marks, pm, rfl, ⟨_, SqL.of t.hpm⟩, fun D hD => ?_⟩
    refine lc_keepH keep_same (walk_list (K := K) (a := pm) (xs := txs ms)) hD (by rw [txs_len]; exact small1000 (by omega)) (fun j y H => ∃ p, y = .ref p ∧ p ≠ D ∧ ∀ mm, ms[j]? = some mm → H p = some (.lst (txs (sg.map (tg mm))))) (fun H r => SqL.of (r _ _ t.hpm))
      (fun _ _ _ _ _ r1 ⟨p, e, n, h⟩ => ⟨p, e, n, fun mm hm => r1 _ _ (h mm hm)⟩) (fun _ _ _ _ _ _ _ ⟨p, e, n, h⟩ => ⟨p, e, n, fun mm hm => by rw [upd_ne n]; exact h mm hm⟩) (fun i x H2 H2' acc R hi r2 hDa hy hR => ?_) (fun ys H2 hly hg r2 hDs => ?_)
    · obtain ⟨rfl, e⟩ := hy
      obtain ⟨mm, em, rfl⟩ := txs_get e
      have hmem := List.mem_of_getElem? em
      have t2 := t.same r2
      refine ⟨rfl, ?_⟩
      refine ⟨_, rfl, _, _, rfl, t2.signs, S sg, rfl, fun D2 hD2 => lc_keep keep_same walk_str hD2 (by show sg.length < sizeLine; exact small1000 (by have := hgd.hsg.2.2.1; omega)) (fun j y => ∀ c, sg[j]? = some c → y = .str (S (tg mm c))) (fun _ _ => trivial) (fun j z H3 H4 R2 hj r3 hy hR2 => ?_) (fun zs H3 hlz hgz r3 hDz => ?_)⟩
      · obtain ⟨rfl, c, hc, rfl⟩ := hy
        have hc' : sg[j]? = some c := by simpa [S] using hc
        have t3 := t2.same r3
        refine ⟨rfl, ?_⟩
        refine ⟨_, rfl, _, _, rfl, t3.leads, ?_⟩
        refine ⟨_, rfl, _, _, rfl, t3.mark hmem, ?_⟩
        refine ⟨_, rfl, _, _, rfl, t3.at_ hmem (List.mem_of_getElem? hc'), ?_⟩
        exact hR2 _ _ (Same.refl _) fun c' h => by rw [Option.some.inj (hc'.symm.trans h)]
      · have ez : zs = txs (sg.map (tg mm)) := by
          unfold txs; rw [List.map_map]
          exact list_map hlz fun j y c e1 e2 => hgz j y e1 c e2
        subst ez
        have nD : D2 ≠ D := fun e => by rw [e, hDa] at hD2; cases hD2
        exact hR _ _ r3 ⟨D2, rfl, nD, fun m2 h2 => by rw [em] at h2; cases h2; exact hDz⟩
    rw [txs_len] at hly
    obtain ⟨sa, hsa⟩ := fun_of (γ := Addr) hgd.hnd (P := fun j mm t => ys[j]? = some (V.ref t) ∧ H2 t = some (.lst (txs (sg.map (tg mm))))) fun j mm hj => by
      have hjl : j < ys.length := by rw [hly]; exact (List.getElem?_eq_some_iff.mp hj).1
      obtain ⟨t, e, _, h⟩ := hg j _ (List.getElem?_eq_getElem hjl)
      exact ⟨t, by rw [List.getElem?_eq_getElem hjl, e], h mm hj⟩
    have eys : ys = ms.map fun x => V.ref (sa x) := list_map hly fun j y x e1 e2 => by have := (hsa j x e2).1; rw [e1] at this; exact Option.some.inj this
    subst eys
    have hsa2 : ∀ x ∈ ms, H2 (sa x) = some (.lst (txs (sg.map (tg x)))) := fun x hx => by obtain ⟨j, hj⟩ := List.getElem?_of_mem hx; exact (hsa j x hj).2
    have t2 := t.same r2
    refine ⟨_, rfl, _, _, rfl, t2.signs, _, rfl, _, _, rfl, t2.marks, _, rfl, _, _, rfl, t2.first, _, rfl, fun p dx hp hdx hne => ?_⟩
    have hpx : ∀ b o, H2 b = some o → b ≠ p ∧ b ≠ dx := fun b o e => ⟨fun z => (by rw [← z, e] at hp; cases hp), fun z => (by rw [← z, e] at hdx; cases hdx)⟩
    have kp : ∀ b o, H2 b = some o → (upd (upd H2 dx (.own p)) p (.ins C dx [])) b = some o := fun b o e => by rw [upd_ne (hpx b o e).1, upd_ne (hpx b o e).2]; exact e
    refine ⟨p, dx, pm, D, true, true, true, sg, ms, f, tg, sa, rfl, upd_same, kp _ _ t2.hpm, kp _ _ hDs, fun x hx => kp _ _ (hsa2 x hx), hgd, fun H' hk hr => ⟨rfl, k p H' (fun b o e => ?_) ?_ hr⟩⟩
    · have e2 := r2 _ _ e
      exact hk b o (hpx b o e2).1 (kp b o e2)
    · cases e : H p with
      | none => rfl
      | some o => exact absurd rfl (hpx p o (r2 _ _ e)).1
end
end Toy
set_option maxHeartbeats 4000000
namespace Toy
open PySem L2 C8 SX LX
local macro_rules | `(tactic| walk_at "c") => `(tactic| refine And.intro (by first | (show (0 : Int) < _; omega) | exact Or.inr ⟨by decide, by decide⟩ | exact Or.inl ⟨by decide, by decide⟩ | (exact ⟨by omega, by omega⟩)) ?_)
local macro_rules | `(tactic| walk_at "s1") => `(tactic| first | refine ⟨_, rfl, ?_⟩ | refine ⟨_, _, rfl, rfl, ?_⟩ | refine .inl ⟨_, rfl, ?_⟩ | walk_at "c")
local macro_rules | `(tactic| walk_at "s") => `(tactic| repeat (walk_at "s1"))
section
variable {P : Program} {w : World} {K : PySem.W.Frag} {mg : Str → Option Value} {base : Heap}
abbrev s_lot : Stmt := top 50
abbrev n_lot : List Str := ["box", "told", "mark"]
theorem sc_lot : FnScope n_lot ["box", "told"] (fnScope s_lot) := fnScope_by (by decide +kernel)
def spLot : Sp := fun vs H Q _ => ∃ (b a : Addr) (sg : List Nat) (ms : List (List Nat)) (f : List Nat) (tg : List Nat → Nat → List Nat) (pm pl : Addr) (ad : List Nat → Addr), vs = [.ref b, .ref a] ∧ BoxAt b H ∧ Told H a sg ms f tg pm pl ad ∧ pm ≠ b ∧ Small ms ∧ ms.Nodup ∧ ms.length ≤ 8 ∧
  ∀ (ls : List (List Nat)) (p : Addr) (H' : Hp), (∀ l ∈ ls, l ∈ ms) → ls.Nodup → Bx b H H' → H p = none → H' p = some (.lst (txs ls)) → Q (.ref p) H'
theorem ok_lot (T : BT mg) (c_take : Cal P w K mg base 1 "_law_take" spTake []) (c_mixed : Cal P w K mg base 2 "_law_mixed" (spMixed K) []) {f : Addr} {fd : FuncData} (F : Def K mg "_law_lot" s_lot f fd) (b : Binds K fd ["box", "told"] []) : Cal P w K mg base 3 "_law_lot" spLot [] := by
  refine cal0 F b .nil sc_lot (fun vs H Q E h => ?_) (fun cdv A outer s H vs Q E hr h => ?_)
  · obtain ⟨b, a, _, _, _, _, _, _, _, rfl, _⟩ := h; rfl
  · obtain ⟨b, a, sg, ms, f, tg, pm, pl, ad, rfl, hb, t, hpm, hsm, hnd, h8, k⟩ := h
    refine ⟨_, (pss_one (ps_ret (pe_lc (own := [("mark", 2)]) rfl sc_lot.nd (pi_list (pe_c c_mixed hr (by first | decide | omega) (by rfl) (pa_cons (pv 0) (pa_cons (pe_dget (hu_of hr) (pv 1) pe_str (fun _ _ => rfl)) pa_nil)))) (blkOk_by (N := n_lot) (sc := fnScope s_lot) (by decide +kernel)) (fun _ _ _ _ _ => (pg_name (i := 2) sc_lot.nd rfl (.inl rfl))) (fun _ _ _ _ _ => pts_one (pt_cmpR op_eq (pe_c c_take hr (by first | decide | omega) (by rfl) (pa_cons (pv 0) (pa_cons pe_int pa_nil))) pe_int (nomark _))) (fun _ _ _ _ _ => (pv 2))))
      ), ?_⟩
    refine ⟨_, rfl, _, rfl, _, _, rfl, t.marks, b, pm, ms, rfl, hb, hpm, SqL.of t.hpm, hsm, by omega, fun ys r H1 hys hr hB1 hr1 => ?_⟩
    have hrb : r ≠ b := box_ne hb hr
    have hyl : ys.length = ms.length := hys.length_eq
    refine ⟨r, rfl, ⟨_, SqL.of hr1⟩, fun D hD => ?_⟩
    have hDb : D ≠ b := box_ne hB1.2 hD
    have hDr : r ≠ D := ne_of_none hr1 hD
    refine lc_it (walk_list (K := K) (a := r) (xs := txs ys)) (fun i H' => ∃ ls : List (List Nat), ls.Sublist (ys.take i) ∧ H' D = some (.lst (txs ls)) ∧ H' r = some (.lst (txs ys)) ∧ Bx b H H')
      ⟨[], List.nil_sublist _, upd_same, by rw [upd_ne hDr]; exact hr1, Bx.put hB1 hb (hB1.free hD)⟩ (fun i H' _ ⟨_, _, _, e, _⟩ => SqL.of e) (fun i x H2 H2' hi ⟨ls, hsub, hd2, hr2, hB2⟩ hy => ?_) (fun H2 ⟨ls, hsub, hd2, hr2, hB2⟩ => ?_)
    · obtain ⟨rfl, ex⟩ := hy
      obtain ⟨mm, hmm, rfl⟩ := txs_get ex
      refine ⟨rfl, ?_⟩
      have hll : ls.length ≤ 8 := by have := hsub.length_le; rw [List.length_take] at this; omega
      refine ⟨_, rfl, b, 2, rfl, hB2.2, by omega, by omega, fun d H3 d0 d1 hB3 => ?_⟩
      have hd3 := hB3.1 _ _ hDb hd2
      have hr3 := hB3.1 _ _ hrb hr2
      have hB23 := hB2.trans hB3
      refine ⟨rfl, _, rfl, ?_⟩
      cases e : decide (V.int d = V.int 0) with
      | true =>
        refine iteB rfl ⟨_, rfl, ?_⟩
        refine ⟨_, hd3, by rw [txs_len]; exact small1000 (by omega), ls ++ [mm], ?_, by rw [upd_same]; unfold txs; rw [List.map_append]; rfl, by rw [upd_ne hDr]; exact hr3, ?_⟩
        · rw [take_more hmm]
          exact hsub.append (List.Sublist.refl _)
        · exact Bx.put hB23 hb (hB1.free hD)
      | false =>
        refine iteN rfl ?_
        exact ⟨ls, by rw [take_more hmm]; exact hsub.trans (List.sublist_append_left _ _), hd3, hr3, hB23⟩
    · rw [txs_len, List.take_length] at hsub
      exact k ls D H2 (fun l hl => hys.subset (hsub.subset hl)) ((hys.nodup_iff.mpr hnd).sublist hsub) hB2 (hB1.free hD) hd2
abbrev s_lparted : Stmt := top 51
abbrev n_lparted : List Str := ["told", "lot", "one", "other", "row"]
theorem sc_lparted : FnScope n_lparted ["told", "lot", "one", "other"] (fnScope s_lparted) := fnScope_by (by decide +kernel)
def partL (sg : List Nat) (tg : List Nat → Nat → List Nat) (ls : List (List Nat)) (x y : List Nat) : Option (List Nat) := (upto sg 3).find? fun v => decide (ledTo tg x v ∈ ls) != decide (ledTo tg y v ∈ ls)
def spLParted (K : PySem.W.Frag) : Sp := fun vs H Q _ => ∃ (a q : Addr) (sg : List Nat) (ms : List (List Nat)) (f : List Nat) (tg : List Nat → Nat → List Nat) (pm pl : Addr) (ad : List Nat → Addr) (ls : List (List Nat)) (x y : List Nat), vs = [.ref a, .ref q, .str (S x), .str (S y)] ∧ Told H a sg ms f tg pm pl ad ∧ Good sg ms f tg ∧ SqL K H q (txs ls) ∧ x ∈ ms ∧ y ∈ ms ∧
  ∀ (H' : Hp), Same H H' → Q (optV (partL sg tg ls x y)) H'
theorem ok_lparted (T : BT mg) (c_rows : Cal P w K mg base 1 "_law_rows" spRows []) (c_led : Cal P w K mg base 1 "_law_led" spLed []) {f : Addr} {fd : FuncData} (F : Def K mg "_law_parted" s_lparted f fd) (b : Binds K fd ["told", "lot", "one", "other"] []) : Cal P w K mg base 2 "_law_parted" (spLParted K) [] := by
  refine cal0 F b .nil sc_lparted (fun vs H Q E h => ?_) (fun cdv A outer s H vs Q E hr h => ?_)
  · obtain ⟨a, q, _, _, _, _, _, _, _, _, _, _, rfl, _⟩ := h; rfl
  · obtain ⟨a, q, sg, ms, f, tg, pm, pl, ad, ls, x, y, rfl, t, hgd, hq, hx, hy, k⟩ := h
    refine ⟨_, (pss_cons (ps_for PassesOwn.never rfl (pi_list (pe_c c_rows hr (by first | decide | omega) (by rfl) (pa_cons (pe_dget (hu_of hr) (pv 0) pe_str (fun _ _ => rfl)) (pa_cons pe_int pa_nil)))) (pg_name (i := 4) sc_lparted.nd rfl (.inl rfl)) 
        (pss_one (ps_if (pt_cmpR op_ne (pe_cmpR (inK K) (pe_c c_led hr (by first | decide | omega) (by rfl) (pa_cons (pv 0) (pa_cons (pv 2) (pa_cons (pv 4) pa_nil)))) (pv 1) rfl) (pe_cmpR (inK K) (pe_c c_led hr (by first | decide | omega) (by rfl) (pa_cons (pv 0) (pa_cons (pv 3) (pa_cons (pv 4) pa_nil)))) (pv 1) rfl) (nomark _)) 
          (pss_one (ps_ret (pv 4))
          )
         pss_nil)
        ))
      (pss_one (ps_ret pe_non)
      )), ?_⟩
    have hl3 := hgd.hsg.2.2.1
    refine ⟨_, rfl, _, _, rfl, t.signs, sg, 3, rfl, hl3, by decide, fun p H1 s1 n1 hp => ?_⟩
    have hul : (upto sg 3).length ≤ 54 := upto_len hl3 3
    have t1 := t.same s1
    refine ⟨p, rfl, ⟨_, SqL.of hp⟩, for_it (walk_list (K := K) (a := p) (xs := txs (upto sg 3))) (fun i σ H' => ∃ s4 : Option V, σ = [some (.ref a), some (.ref q), some (.str (S x)), some (.str (S y)), s4] ∧ H' = H1 ∧ ∀ v ∈ (upto sg 3).take i, (decide (ledTo tg x v ∈ ls) != decide (ledTo tg y v ∈ ls)) = false)
      ⟨none, rfl, rfl, fun v hv => by simp at hv⟩ (fun i σ H' _ ⟨_, _, e, _⟩ => by rw [e]; exact SqL.of hp) ?_ ?_⟩
    · rintro i u σ H2 H2' hi ⟨s4, rfl, rfl, hnone⟩ ⟨rfl, e⟩
      obtain ⟨v, hv, rfl⟩ := txs_get e
      have ho : Ov sg v := (upto_row (List.mem_of_getElem? hv)).2
      refine ⟨_, rfl, _, rfl, _, rfl, a, sg, ms, f, tg, pm, pl, ad, x, v, rfl, t1, hgd.htg, hx, ho, ?_⟩
      refine ⟨_, rfl, q, txs ls, rfl, .inl (s1.seq hq), rfl, flat_txs _, ?_⟩
      refine ⟨_, rfl, _, rfl, _, rfl, a, sg, ms, f, tg, pm, pl, ad, y, v, rfl, t1, hgd.htg, hy, ho, ?_⟩
      refine ⟨_, rfl, q, txs ls, rfl, .inl (s1.seq hq), rfl, flat_txs _, ?_⟩
      rw [inV_txs, inV_txs]
      refine ⟨rfl, ?_⟩
      rw [dec_bl]
      cases e2 : (decide (ledTo tg x v ∈ ls) != decide (ledTo tg y v ∈ ls)) with
      | true =>
        refine ⟨true, ?_, ?_⟩
        · show V.bl (!(decide (ledTo tg x v ∈ ls) == decide (ledTo tg y v ∈ ls))) = V.bl true
          exact congrArg V.bl e2
        refine iteB rfl ⟨_, rfl, ?_⟩
        have er : partL sg tg ls x y = some v := by
          unfold partL
          rw [List.find?_eq_some_iff_append]
          refine ⟨e2, (upto sg 3).take i, (upto sg 3).drop (i + 1), ?_, fun w hw => by rw [hnone w hw]; rfl⟩
          have hil := (List.getElem?_eq_some_iff.mp hv)
          rw [← hil.2, ← List.drop_eq_getElem_cons hil.1, List.take_append_drop]
        rw [er] at k
        exact k _ s1
      | false =>
        refine ⟨false, ?_, ?_⟩
        · show V.bl (!(decide (ledTo tg x v ∈ ls) == decide (ledTo tg y v ∈ ls))) = V.bl false
          exact congrArg V.bl e2
        refine iteN rfl ?_
        refine ⟨_, rfl, rfl, fun w hw => ?_⟩
        rw [take_more hv] at hw
        rcases List.mem_append.mp hw with hw | hw
        · exact hnone w hw
        · rw [List.mem_singleton.mp hw]; exact e2
    · rintro σ H2 ⟨s4, rfl, rfl, hnone⟩
      rw [txs_len, List.take_length] at hnone
      have er : partL sg tg ls x y = none := by
        unfold partL
        rw [List.find?_eq_none]
        intro v hv
        rw [hnone v hv]; exact Bool.false_ne_true
      rw [er] at k
      exact k _ s1
end
end Toy
set_option maxHeartbeats 1000000
namespace Toy
open PySem L2 C8 SX LX
theorem getD_idx {ms : List (List Nat)} {m : List Nat} (h : m ∈ ms) : ms.getD (ms.idxOf m) [] = m := by
  have hl := List.idxOf_lt_length_of_mem h
  rw [List.getD_eq_getElem?_getD, List.getElem?_eq_getElem hl, Option.getD_some, List.getElem_idxOf]
theorem sg_nodup {sg : List Nat} (h : Sg sg) : sg.Nodup := h.1.imp fun h => by omega
theorem run_led {sg : List Nat} {ms : List (List Nat)} {tg : List Nat → Nat → List Nat} (htg : ∀ m ∈ ms, ∀ c ∈ sg, tg m c ∈ ms) : ∀ (v : List Nat) (m : List Nat), m ∈ ms → Ov sg v → UW.run (leadT sg ms tg) (ms.idxOf m) (ixs sg v) = ms.idxOf (ledTo tg m v)
  | [], _, _, _ => rfl
  | c :: v, m, hm, ho => by
    have hc := ho c List.mem_cons_self
    show UW.run (leadT sg ms tg) (leadT sg ms tg (ms.idxOf m) (sg.idxOf c)) (ixs sg v) = ms.idxOf (ledTo tg (tg m c) v)
    have e : leadT sg ms tg (ms.idxOf m) (sg.idxOf c) = ms.idxOf (tg m c) := by
      unfold leadT
      have hl := List.idxOf_lt_length_of_mem hc
      have e2 : sg.getD (sg.idxOf c) 0 = c := by rw [List.getD_eq_getElem?_getD, List.getElem?_eq_getElem hl, Option.getD_some, List.getElem_idxOf]
      rw [getD_idx hm, e2]
    rw [e]
    exact run_led htg v _ (htg m hm c hc) fun d hd => ho d (List.mem_cons_of_mem _ hd)
theorem fl_led {sg : List Nat} {ms ls : List (List Nat)} {tg : List Nat → Nat → List Nat} (htg : ∀ m ∈ ms, ∀ c ∈ sg, tg m c ∈ ms) {v m : List Nat} (hm : m ∈ ms) (ho : Ov sg v) : flO ms ls (UW.run (leadT sg ms tg) (ms.idxOf m) (ixs sg v)) = decide (ledTo tg m v ∈ ls) := by
  rw [run_led htg v m hm ho]
  unfold flO
  rw [getD_idx (led_in htg ho hm)]
theorem run_th {Th : List Nat → Prop} {lead : List Nat → Nat → List Nat} {m : Nat} (hl : ∀ t i, Th t → i < m → Th (lead t i)) : ∀ (w b : List Nat), Th b → UW.Rw m w → Th (UW.run lead b w)
  | [], _, h, _ => h
  | c :: w, b, h, hw => run_th hl w _ (hl b c h (hw c List.mem_cons_self)) fun d hd => hw d (List.mem_cons_of_mem _ hd)
theorem walkG_ends {Th : List Nat → Prop} {N : Nat} (hN : Few Th N) {lead : List Nat → Nat → List Nat} {isl : List Nat → Bool} {sg : List Nat} (nd : sg.Nodup) (hl : ∀ t i, Th t → i < sg.length → Th (lead t i)) {b : List Nat} (hb : Th b) : UW.Ends lead isl sg b (walkG lead isl sg N b) := by
  cases e : isl b with
  | true =>
    unfold walkG
    rw [outG_last (by exact e)]
    exact .inl ⟨⟨0, 0, UW.St.init⟩, (b, []), rfl, e⟩
  | false =>
    refine UW.outG_ok nd (fun L p h => lastG_of h) (N := N) (fun L k i st => ?_) _ _ _ (by omega) UW.St.init (fun q hq => by rw [List.mem_singleton.mp hq]; exact e)
    have hnd := st.nd
    unfold UW.conv at hnd
    rw [List.map_map] at hnd
    have := hN (L.map (·.1)) hnd fun x hx => by
      obtain ⟨p, hp, rfl⟩ := List.mem_map.mp hx
      obtain ⟨j, hj⟩ := List.getElem?_of_mem hp
      obtain ⟨h1, h2⟩ := st.row j _ (UW.conv_get hj)
      have h1 : UW.run lead b (p.2.map fun c => sg.idxOf c) = p.1 := h1
      rw [← h1]
      exact run_th hl _ _ hb h2
    rwa [List.length_map] at this
theorem found_last {isl : List Nat → Bool} {L : WT} (h : L ≠ []) : foundG isl L = lastRow isl L := by
  unfold foundG lastRow
  have hp := List.length_pos_iff.mpr h
  have e : L[L.length - 1]? = some L[L.length - 1] := List.getElem?_eq_getElem (by omega)
  rw [lastG_of e, List.getLast?_eq_getElem?, e]
  rfl
theorem rel_part {sg : List Nat} {ms ls : List (List Nat)} {f : List Nat} {tg : List Nat → Nat → List Nat} (g : Good sg ms f tg) (h4 : ms.length ≤ 4) {i j : Nat} (hi : i < ms.length) (hj : j < ms.length)
    (h : ∀ w, UW.Rw sg.length w → w.length ≤ 3 → flO ms ls (UW.run (leadT sg ms tg) i w) = flO ms ls (UW.run (leadT sg ms tg) j w)) : ∀ w, UW.Rw sg.length w → flO ms ls (UW.run (leadT sg ms tg) i w) = flO ms ls (UW.run (leadT sg ms tg) j w) :=
  UW.three (lead_lt g) h4 hi hj (UW.eb_row.mpr h)
theorem part_eq {sg : List Nat} {ms ls : List (List Nat)} {f : List Nat} {tg : List Nat → Nat → List Nat} (g : Good sg ms f tg) (h4 : ms.length ≤ 4) {x y : List Nat} (hx : x ∈ ms) (hy : y ∈ ms) : partR sg ms tg ls x y = partL sg tg ls x y := by
  have hix := List.idxOf_lt_length_of_mem hx
  have hiy := List.idxOf_lt_length_of_mem hy
  have hl := leadP_ok (lead_lt g) (lead_lt g)
  have hE := walkG_ends (fewP ms.length ms.length) (isl := partP (flO ms ls) (flO ms ls)) (sg_nodup g.hsg) hl (b := [ms.idxOf x, ms.idxOf y]) ⟨_, _, rfl, hix, hiy⟩
  unfold partR
  rw [found_last (show walkG (leadP (leadT sg ms tg) (leadT sg ms tg)) (partP (flO ms ls) (flO ms ls)) sg (ms.length * ms.length) [ms.idxOf x, ms.idxOf y] ≠ [] from outG_nil _ _ _ (by simp))]
  have key : ∀ w, partP (flO ms ls) (flO ms ls) (UW.run (leadP (leadT sg ms tg) (leadT sg ms tg)) [ms.idxOf x, ms.idxOf y] w) = (flO ms ls (UW.run (leadT sg ms tg) (ms.idxOf x) w) != flO ms ls (UW.run (leadT sg ms tg) (ms.idxOf y) w)) := fun w => by rw [runP]; rfl
  rw [least_first (sg_nodup g.hsg) hE 3 fun h w hw => ?_]
  · unfold partL
    have : ∀ (l : List (List Nat)), (∀ v ∈ l, Ov sg v) → (l.find? fun v => partP (flO ms ls) (flO ms ls) (UW.run (leadP (leadT sg ms tg) (leadT sg ms tg)) [ms.idxOf x, ms.idxOf y] (ixs sg v))) = l.find? fun v => decide (ledTo tg x v ∈ ls) != decide (ledTo tg y v ∈ ls) := by
      intro l
      induction l with
      | nil => intro _; rfl
      | cons v l ih =>
        intro ho
        have hv := ho v List.mem_cons_self
        rw [List.find?_cons, List.find?_cons, key, fl_led g.htg hx hv, fl_led g.htg hy hv, ih fun u hu => ho u (List.mem_cons_of_mem _ hu)]
    exact this _ fun v hv => (upto_row hv).2
  · rw [key]
    have := rel_part (ls := ls) g h4 hix hiy (fun w hw hlw => by
      have := h w hw hlw
      rw [key] at this
      simpa using this) w hw
    simpa using this
theorem part_none {sg : List Nat} {ms ls : List (List Nat)} {f : List Nat} {tg : List Nat → Nat → List Nat} (g : Good sg ms f tg) (h4 : ms.length ≤ 4) {x y : List Nat} (hx : x ∈ ms) (hy : y ∈ ms) : partL sg tg ls x y = none ↔ ∀ w, UW.Rw sg.length w → flO ms ls (UW.run (leadT sg ms tg) (ms.idxOf x) w) = flO ms ls (UW.run (leadT sg ms tg) (ms.idxOf y) w) := by
  have hix := List.idxOf_lt_length_of_mem hx
  have hiy := List.idxOf_lt_length_of_mem hy
  unfold partL
  rw [List.find?_eq_none]
  constructor
  · intro h
    refine rel_part g h4 hix hiy fun w hw hlw => ?_
    obtain ⟨v, hv, rfl⟩ := ixs_of (sg_nodup g.hsg) hw
    rw [ixs_len] at hlw
    have := h v (mem_upto hv hlw)
    rw [fl_led g.htg hx hv, fl_led g.htg hy hv]
    simpa using this
  · intro h v hv
    have ho := (upto_row hv).2
    have := h _ (rw_ixs.mpr ho)
    rw [fl_led g.htg hx ho, fl_led g.htg hy ho] at this
    rw [this]
    simp
end Toy
set_option maxHeartbeats 4000000
namespace Toy
open PySem L2 C8 SX LX
theorem firsts_app {α : Type} [DecidableEq α] (xs ys : List α) : ∃ e, UW.firsts (xs ++ ys) = UW.firsts xs ++ e := by
  unfold UW.firsts
  rw [List.foldl_append]
  generalize xs.foldl UW.ins [] = acc
  induction ys generalizing acc with
  | nil => exact ⟨[], (List.append_nil _).symm⟩
  | cons y ys ih =>
    rw [List.foldl_cons]
    obtain ⟨e, he⟩ := ih (UW.ins acc y)
    rw [he]
    unfold UW.ins
    split
    · exact ⟨e, rfl⟩
    · exact ⟨y :: e, by rw [List.append_assoc]; rfl⟩
def nk (g : List Nat) (i : Nat) : Nat := (UW.firsts (g.take i)).length
theorem can_take {g : List Nat} (h : UW.num g = g) (i : Nat) : UW.firsts (g.take i) = List.range (nk g i) := by
  obtain ⟨e, he⟩ := firsts_app (g.take i) (g.drop i)
  rw [List.take_append_drop, UW.can_range h] at he
  have hl : nk g i ≤ (UW.firsts g).length := by
    have := congrArg List.length he
    rw [List.length_range, List.length_append] at this
    unfold nk; omega
  have : (List.range (UW.firsts g).length).take (nk g i) = UW.firsts (g.take i) := by
    rw [he]
    unfold nk
    exact List.take_left
  rw [← this, List.take_range, Nat.min_eq_left hl]
theorem nk_zero (g : List Nat) : nk g 0 = 0 := by unfold nk; rw [List.take_zero]; rfl
theorem nk_all {g : List Nat} {n : Nat} (h : g.length = n) : nk g n = (UW.firsts g).length := by unfold nk; rw [← h, List.take_length]
theorem nk_step {g : List Nat} (h : UW.num g = g) {i : Nat} (hi : i < g.length) : (g.getD i 0 < nk g i ∧ nk g (i + 1) = nk g i) ∨ (g.getD i 0 = nk g i ∧ nk g (i + 1) = nk g i + 1) := by
  have e1 := can_take h i
  have e2 := can_take h (i + 1)
  have hg : g[i]? = some (g.getD i 0) := UW.get_getD hi
  have e3 : UW.firsts (g.take (i + 1)) = UW.ins (UW.firsts (g.take i)) (g.getD i 0) := by rw [take_more hg, UW.firsts_snoc]
  rw [e1] at e3
  unfold UW.ins at e3
  by_cases hm : g.getD i 0 ∈ List.range (nk g i)
  · rw [if_pos hm] at e3
    refine .inl ⟨List.mem_range.mp hm, ?_⟩
    have : nk g (i + 1) = (UW.firsts (g.take (i + 1))).length := rfl
    rw [this, e3, List.length_range]
  · rw [if_neg hm] at e3
    have hl : nk g (i + 1) = nk g i + 1 := by
      have : nk g (i + 1) = (UW.firsts (g.take (i + 1))).length := rfl
      rw [this, e3, List.length_append, List.length_range]; rfl
    refine .inr ⟨?_, hl⟩
    rw [e2, hl, List.range_succ] at e3
    have := List.append_cancel_left e3
    exact (List.cons.inj this).1.symm
def clsP (ms : List (List Nat)) (g : List Nat) (i k : Nat) : List (List Nat) := (takenN (fun j => g.getD j 0 == k) i).map fun j => ms.getD j []
theorem clsP_step {ms : List (List Nat)} {g : List Nat} {i k : Nat} {m : List Nat} (hm : ms[i]? = some m) : clsP ms g (i + 1) k = if g.getD i 0 = k then clsP ms g i k ++ [m] else clsP ms g i k := by
  unfold clsP
  by_cases h : g.getD i 0 = k
  · rw [if_pos h, takenN_yes (ok := fun j => g.getD j 0 == k) (by show (g.getD i 0 == k) = true; rw [h]; exact beq_self_eq_true _), List.map_append, List.map_cons, List.map_nil, getD_of hm]
  · rw [if_neg h, takenN_no (ok := fun j => g.getD j 0 == k) (beq_eq_false_iff_ne.mpr h)]
theorem clsP_head {ms : List (List Nat)} {g : List Nat} (h : UW.num g = g) {i k : Nat} (hi : i ≤ g.length) (hg : g.length = ms.length) (hk : k < nk g i) : ∃ j m, j < i ∧ g.getD j 0 = k ∧ ms[j]? = some m ∧ (clsP ms g i k)[0]? = some m := by
  have hm : k ∈ g.take i := UW.firsts_mem.mp (by rw [can_take h]; exact List.mem_range.mpr hk)
  have hne : takenN (fun j => g.getD j 0 == k) i ≠ [] := by
    obtain ⟨j, hj⟩ := List.getElem?_of_mem hm
    have hji : j < i := by have := (List.getElem?_eq_some_iff.mp hj).1; rw [List.length_take] at this; omega
    rw [List.getElem?_take_of_lt hji] at hj
    refine List.ne_nil_of_mem (a := j) ?_
    unfold takenN
    rw [List.mem_filter]
    exact ⟨List.mem_range.mpr hji, by rw [UW.getD_some hj]; exact beq_self_eq_true _⟩
  cases e : takenN (fun j => g.getD j 0 == k) i with
  | nil => exact absurd e hne
  | cons j js =>
    have hj : j ∈ takenN (fun j => g.getD j 0 == k) i := by rw [e]; exact List.mem_cons_self
    unfold takenN at hj
    rw [List.mem_filter, List.mem_range] at hj
    have hjm : j < ms.length := by omega
    refine ⟨j, ms[j], hj.1, eq_of_beq hj.2, List.getElem?_eq_getElem hjm, ?_⟩
    unfold clsP
    rw [e]
    show some (ms.getD j []) = some ms[j]
    rw [List.getD_eq_getElem?_getD, List.getElem?_eq_getElem hjm]; rfl
theorem clsP_sub {ms : List (List Nat)} {g : List Nat} {i k : Nat} (hi : i ≤ ms.length) : ∀ m ∈ clsP ms g i k, m ∈ ms := fun m hm => by
  obtain ⟨j, hj, rfl⟩ := List.mem_map.mp hm
  unfold takenN at hj
  rw [List.mem_filter, List.mem_range] at hj
  rw [List.getD_eq_getElem?_getD, List.getElem?_eq_getElem (by omega)]
  exact List.getElem_mem _
theorem clsP_len {ms : List (List Nat)} {g : List Nat} {i k : Nat} : (clsP ms g i k).length ≤ i := by
  unfold clsP; rw [List.length_map]; exact takenN_le
theorem taken_eq {n k : Nat} : takenN (fun j => j == k) n = if k < n then [k] else [] := by
  induction n with
  | zero => rfl
  | succ n ih =>
    by_cases h : n = k
    · subst h
      rw [takenN_yes (ok := fun j => j == n) (beq_self_eq_true _), ih, if_neg (by omega), if_pos (by omega)]; rfl
    · rw [takenN_no (ok := fun j => j == k) (beq_eq_false_iff_ne.mpr h), ih]
      by_cases h2 : k < n
      · rw [if_pos h2, if_pos (by omega)]
      · rw [if_neg h2, if_neg (by omega)]
section
variable {P : Program} {w : World} {K : PySem.W.Frag} {mg : Str → Option Value} {base : Heap}
abbrev s_lclasses : Stmt := top 52
abbrev n_lclasses : List Str := ["told", "lot", "found", "mark", "alike", "some"]
theorem sc_lclasses : FnScope n_lclasses ["told", "lot"] (fnScope s_lclasses) := fnScope_by (by decide +kernel)
def spLClasses (K : PySem.W.Frag) : Sp := fun vs H Q _ => ∃ (a q : Addr) (sg : List Nat) (ms : List (List Nat)) (f : List Nat) (tg : List Nat → Nat → List Nat) (pm pl : Addr) (ad : List Nat → Addr) (ls : List (List Nat)) (g : List Nat), vs = [.ref a, .ref q] ∧ Told H a sg ms f tg pm pl ad ∧ Good sg ms f tg ∧ ms.length ≤ 4 ∧ Small ms ∧ SqL K H q (txs ls) ∧ Kinds sg ms tg ls g ∧
  ∀ (p : Addr) (ps : List Addr) (H' : Hp), Same H H' → H' p = some (.tup (ps.map V.ref)) → ps.length = (UW.firsts g).length → (∀ (k : Nat) a, ps[k]? = some a → H' a = some (.tup (txs (clsN ms g k)))) → Q (.ref p) H'
theorem ok_lclasses (T : BT mg) (c_lparted : Cal P w K mg base 2 "_law_parted" (spLParted K) []) {f : Addr} {fd : FuncData} (F : Def K mg "_law_classes" s_lclasses f fd) (b : Binds K fd ["told", "lot"] []) : Cal P w K mg base 3 "_law_classes" (spLClasses K) [] := by
  refine cal0 F b .nil sc_lclasses (fun vs H Q E h => ?_) (fun cdv A outer s H vs Q E hr h => ?_)
  · obtain ⟨a, q, _, _, _, _, _, _, _, _, _, rfl, _⟩ := h; rfl
  · obtain ⟨a, q, sg, ms, f, tg, pm, pl, ad, ls, g, rfl, t, hgd, h4, hsm, hq, hg, k⟩ := h
    refine ⟨_, (pss_cons (ps_set (i := 2) sc_lclasses.nd rfl (.inl rfl) (pe_lst pa_nil))
      (pss_cons (ps_for PassesOwn.never rfl (pi_list (pe_dget (hu_of hr) (pv 0) pe_str (fun _ _ => rfl))) (pg_name (i := 3) sc_lclasses.nd rfl (.inr rfl)) 
        (pss_cons (ps_setLc (i := 4) (own := [("some", 5)]) rfl sc_lclasses.nd rfl rfl rfl (pi_list (pv 2)) (blkOk_by (N := n_lclasses) (sc := fnScope s_lclasses) (by decide +kernel)) (fun _ _ _ _ _ => (pg_name (i := 5) sc_lclasses.nd rfl (.inl rfl))) (fun _ _ _ _ _ => pts_one (pt_cmpR op_isN (pe_c c_lparted hr (by first | decide | omega) (by rfl) (pa_cons (pv 0) (pa_cons (pv 1) (pa_cons (pe_ix (ixl K) (pv 5) pe_int (fun _ _ => rfl)) (pa_cons (pv 3) pa_nil))))) pe_non (nomark _))) (fun _ _ _ _ _ => (pv 5)))
        (pss_one (ps_if (pt_cmpR (op_neL hr) (pv 4) (pe_lst pa_nil) (nomark _)) 
          (pss_one (ps_expr (pe_bm PySem.F.plainAttrs_list PySem.F.slot_list_append PySem.F.type_list_append mt_append (pe_ix (ixl K) (pv 4) pe_int (fun _ _ => rfl)) (pa_cons (pv 3) pa_nil)))
          )
          (pss_one (ps_expr (pe_bm PySem.F.plainAttrs_list PySem.F.slot_list_append PySem.F.type_list_append mt_append (pv 2) (pa_cons (pe_lst (pa_cons (pv 3) pa_nil)) pa_nil)))
          ))
        )))
      (pss_one (ps_ret (pe_callTy (tupleK K) (by rfl) T.m_tuple PyProof.Rows.boot_tuple (pa_cons (pe_lc (own := [("some", 5)]) rfl sc_lclasses.nd (pi_list (pv 2)) (blkOk_by (N := n_lclasses) (sc := fnScope s_lclasses) (by decide +kernel)) (fun _ _ _ _ _ => (pg_name (i := 5) sc_lclasses.nd rfl (.inl rfl))) (fun _ _ _ _ _ => pts_nil) (fun _ _ _ _ _ => (pe_callTy (tupleK K) (by rfl) T.m_tuple PyProof.Rows.boot_tuple (pa_cons (pv 5) pa_nil)))) pa_nil)))
      ))), ?_⟩
    have hgl := hg.1
    have hcan := hg.2.1
    refine ⟨by show 0 ≤ sizeLine; exact Nat.zero_le _, fun fp hfp => ?_⟩
    have s0 : Same H (upd H fp (.lst [])) := sm_new hfp
    refine ⟨_, rfl, _, _, rfl, (t.same s0).marks, pm, rfl, ⟨_, SqL.of (s0 _ _ t.hpm)⟩, for_it (walk_list (K := K) (a := pm) (xs := txs ms)) (fun i σ H' => ∃ (ps : List Addr) (s3 s4 s5 : Option V), σ = [some (.ref a), some (.ref q), some (.ref fp), s3, s4, s5] ∧ Same H H' ∧ H' fp = some (.lst (ps.map V.ref)) ∧ ps.length = nk g i ∧ ps.Nodup ∧ (∀ p ∈ ps, H p = none ∧ p ≠ fp) ∧ ∀ (k : Nat) p, ps[k]? = some p → H' p = some (.lst (txs (clsP ms g i k))))
      ⟨[], none, none, none, rfl, s0, upd_same, (nk_zero g).symm, List.nodup_nil, (fun p h => nomatch h), fun k p h => by simp at h⟩ (fun i σ H' _ ⟨_, _, _, _, _, s, _⟩ => SqL.of (s _ _ t.hpm)) ?_ ?_⟩
    · rintro i x σ H1 H1' hi ⟨ps, s3, s4, s5, rfl, s1, hf1, hpl, hpn, hpf, hpc⟩ ⟨rfl, ex⟩
      obtain ⟨mm, hmm, rfl⟩ := txs_get ex
      have him : i < ms.length := (List.getElem?_eq_some_iff.mp hmm).1
      have hmmm : mm ∈ ms := List.mem_of_getElem? hmm
      have hix : ms.idxOf mm = i := by
        obtain ⟨h1, h2⟩ := List.getElem?_eq_some_iff.mp hmm
        rw [← h2]; exact hgd.hnd.idxOf_getElem i h1
      have hlenp : (ps.map V.ref).length = nk g i := by rw [List.length_map, hpl]
      have hnki : nk g i ≤ i := by
        have : (UW.firsts (g.take i)).length ≤ (g.take i).length := UW.sub_len (g.take i) _ (UW.firsts_nodup _) fun x hx => UW.firsts_mem.mp hx
        rw [List.length_take] at this
        unfold nk; omega
      have t1 := t.same s1
      have hq1 := s1.seq hq
      have inj : ∀ (k l : Nat) p, ps[k]? = some p → ps[l]? = some p → k = l := fun k l p h1 h2 => by
        obtain ⟨a1, a2⟩ := List.getElem?_eq_some_iff.mp h1
        obtain ⟨b1, b2⟩ := List.getElem?_eq_some_iff.mp h2
        have e1 := hpn.idxOf_getElem k a1
        rw [a2, ← b2, hpn.idxOf_getElem l b1] at e1
        exact e1.symm
      refine ⟨_, rfl, fp, rfl, ⟨_, SqL.of hf1⟩, fun D hD => ?_⟩
      refine lc_keepF keep_same (walk_list (K := K) (a := fp) (xs := ps.map V.ref)) hD (by rw [hlenp]; exact small1000 (by omega)) (fun k => k == g.getD i 0) (fun k y _ => ∃ p, ps[k]? = some p ∧ y = .ref p)
        (fun H r => SqL.of (r _ _ hf1)) (fun _ _ _ _ _ _ h => h) (fun _ _ _ _ _ _ _ h => h) (fun k z H2 H2' acc N R hk r2 hDa hy hR hN => ?_) (fun ys H2 hly hgy r2 hDs => ?_)
      · rw [hlenp] at hk
        obtain ⟨rfl, ez⟩ := hy
        have hkp : ps[k]? = some ps[k] := List.getElem?_eq_getElem (by omega)
        rw [refs_get hkp] at ez
        obtain rfl := Option.some.inj ez
        obtain ⟨jj, m0, hj1, hj2, hj3, hj4⟩ := clsP_head hcan (by omega) hgl hk
        have hm0 : m0 ∈ ms := List.mem_of_getElem? hj3
        have hjx : ms.idxOf m0 = jj := by
          obtain ⟨h1, h2⟩ := List.getElem?_eq_some_iff.mp hj3
          rw [← h2]; exact hgd.hnd.idxOf_getElem jj h1
        refine ⟨rfl, ?_⟩
        refine ⟨_, rfl, _, rfl, _, rfl, ps[k], txs (clsP ms g i k), 0, .str (S m0), rfl, rfl, SqL.of (r2 _ _ (hpc k _ hkp)), at_of rfl (by unfold txs; rw [List.getElem?_map, hj4]; rfl), ?_⟩
        refine ⟨_, rfl, a, q, sg, ms, f, tg, pm, pl, ad, ls, m0, mm, rfl, t1.same r2, hgd, (r2.seq hq1), hm0, hmmm, fun H3 s3' => ?_⟩
        refine ⟨rfl, ?_⟩
        have hrel := hg.2.2 jj i (by omega) him
        have hpn := part_none (ls := ls) hgd h4 hm0 hmmm
        rw [hjx, hix] at hpn
        rw [← hpn, hj2] at hrel
        cases e : partL sg tg ls m0 mm with
        | none =>
          refine ⟨true, rfl, ?_⟩
          refine iteB rfl ⟨_, rfl, ?_⟩
          have := hrel.mpr e
          exact hR (beq_iff_eq.mpr this) _ _ s3' ⟨_, hkp, rfl⟩
        | some v =>
          refine ⟨false, rfl, ?_⟩
          refine iteN rfl ?_
          exact hN (beq_eq_false_iff_ne.mpr fun z => by rw [hrel.mp z] at e; cases e) _ s3'
      · rw [hlenp, taken_eq] at hly hgy
        have hD1 : H D = none := s1.free hD
        have hf2 := r2 _ _ hf1
        have hDf : D ≠ fp := fun z => by rw [z, hf1] at hD; cases hD
        have s2 := s1.trans r2
        refine ⟨_, rfl, ?_⟩
        have hps2 : ∀ (k : Nat) p, ps[k]? = some p → H2 p = some (.lst (txs (clsP ms g i k))) := fun k p e => r2 _ _ (hpc k p e)
        rcases nk_step hcan (show i < g.length by omega) with ⟨h1, h2⟩ | ⟨h1, h2⟩
        · rw [if_pos h1] at hly hgy
          obtain ⟨p, hp⟩ : ∃ p, ps[g.getD i 0]? = some p := ⟨_, List.getElem?_eq_getElem (by omega)⟩
          have eys : ys = [V.ref p] := by
            match ys, hly, hgy with
            | [y], _, hgy =>
              obtain ⟨p', e1, e2⟩ := hgy 0 _ y rfl rfl
              rw [hp] at e1
              rw [e2, ← Option.some.inj e1]
          subst eys
          have hpp := hps2 _ _ hp
          have hpm := hpf p (List.mem_of_getElem? hp)
          have hcl : (clsP ms g i (g.getD i 0)).length ≤ i := clsP_len
          have hpD : p ≠ D := fun z => by rw [z, hDs] at hpp; have hpp := HO.lst.inj (Option.some.inj hpp); unfold txs at hpp; cases e : clsP ms g i (g.getD i 0) with
            | nil => rw [e] at hpp; cases hpp
            | cons l ls => rw [e] at hpp; cases hpp
          refine ⟨by show 0 ≤ sizeLine; exact Nat.zero_le _, fun E1 hE1 => ?_⟩
          have s3' : Same H2 (upd H2 E1 (.lst [])) := sm_new hE1
          have hE1n : H E1 = none := s2.free hE1
          refine ⟨D, E1, [p], [clsP ms g i (g.getD i 0)], rfl, rfl, s3' _ _ hDs, upd_same, rfl, fun kk r c e1 e2 => ?_, fun c hc => ?_, ?_⟩
          · cases kk with
            | zero => cases e1; cases e2; exact s3' _ _ hpp
            | succ kk => cases e1
          · rw [List.mem_singleton.mp hc]
            exact fun l hl => hsm l (clsP_sub (by omega) l hl)
          refine ⟨true, rfl, iteB rfl ?_⟩
          refine ⟨_, rfl, D, [V.ref p], 0, .ref p, rfl, rfl, SqL.of (s3' _ _ hDs), rfl, ?_⟩
          refine ⟨.inl ⟨rfl, _, SqL.of (s3' _ _ hpp)⟩, _, rfl, p, _, _, rfl, rfl, s3' _ _ hpp, by rw [txs_len]; exact small1000 (by omega), ?_⟩
          refine ⟨ps, _, _, _, rfl, ?_, ?_, by rw [h2, hpl], hpn, hpf, fun k p' e => ?_⟩
          · exact sm_put (sm_put s2 hE1n) hpm.1
          · rw [upd_ne hpm.2.symm]; exact s3' _ _ hf2
          · by_cases hk : p' = p
            · subst hk
              have : k = g.getD i 0 := inj _ _ _ e hp
              subst this
              rw [upd_same, clsP_step hmm, if_pos rfl]
              unfold txs; rw [List.map_append]; rfl
            · rw [upd_ne hk, clsP_step hmm, if_neg fun z => hk (by rw [← z, hp] at e; exact (Option.some.inj e).symm)]
              exact s3' _ _ (hps2 k p' e)
        · rw [if_neg (by omega)] at hly hgy
          have eys : ys = [] := List.length_eq_zero_iff.mp hly
          subst eys
          refine ⟨by show 0 ≤ sizeLine; exact Nat.zero_le _, fun E1 hE1 => ?_⟩
          have s3' : Same H2 (upd H2 E1 (.lst [])) := sm_new hE1
          have hE1n : H E1 = none := s2.free hE1
          refine ⟨D, E1, [], [], rfl, rfl, s3' _ _ hDs, upd_same, rfl, (fun kk r c e1 e2 => by cases e1), (fun c hc => nomatch hc), ?_⟩
          refine ⟨false, rfl, iteN rfl ?_⟩
          have hf3 := s3' _ _ hf2
          refine ⟨_, rfl, .inl ⟨rfl, _, SqL.of hf3⟩, _, rfl, by show 1 ≤ sizeLine; decide, fun p hp => ?_⟩
          have hpH : H p = none := (s2.trans s3').free hp
          have hpf' : p ≠ fp := fun z => by rw [z, hf3] at hp; cases hp
          have hf4 : (upd (upd H2 E1 (.lst [])) p (.lst [.str (S mm)])) fp = some (.lst (ps.map V.ref)) := by rw [upd_ne hpf'.symm]; exact hf3
          refine ⟨fp, _, _, rfl, rfl, hf4, by rw [hlenp]; exact small1000 (by omega), ?_⟩
          have hpnew : ∀ p' ∈ ps, p' ≠ p := fun p' hp' z => by
            obtain ⟨k, hk⟩ := List.getElem?_of_mem hp'
            have := s3' _ _ (hps2 k p' hk)
            rw [z, hp] at this; cases this
          refine ⟨ps ++ [p], _, _, _, rfl, ?_, ?_, by rw [List.length_append, h2, hpl]; rfl, ?_, fun p' hp' => ?_, fun k p' e => ?_⟩
          · exact sm_put (sm_put (sm_put s2 hE1n) hpH) hfp
          · rw [upd_same, List.map_append]; rfl
          · rw [List.nodup_append]
            exact ⟨hpn, by simp, fun a ha b hb e => hpnew a ha (by rw [e, List.mem_singleton.mp hb])⟩
          · rcases List.mem_append.mp hp' with h | h
            · exact hpf p' h
            · rw [List.mem_singleton.mp h]; exact ⟨hpH, hpf'⟩
          · rw [clsP_step hmm]
            rcases Nat.lt_or_ge k ps.length with hk | hk
            · rw [List.getElem?_append_left hk] at e
              have hp' := List.mem_of_getElem? e
              rw [if_neg (by omega), upd_ne (hpf p' hp').2, upd_ne (hpnew p' hp')]
              exact s3' _ _ (hps2 k p' e)
            · rw [List.getElem?_append_right hk] at e
              have hk0 : k - ps.length = 0 := by have := (List.getElem?_eq_some_iff.mp e).1; rw [List.length_singleton] at this; omega
              rw [hk0] at e
              cases e
              rw [if_pos (by omega), upd_ne hpf', upd_same]
              have : clsP ms g i k = [] := by
                unfold clsP
                rw [List.map_eq_nil_iff]
                unfold takenN
                rw [List.filter_eq_nil_iff]
                intro jj hjj
                rw [List.mem_range] at hjj
                have hjm : g.getD jj 0 ∈ List.range (nk g i) := by
                  rw [← can_take hcan]
                  refine UW.firsts_mem.mpr ?_
                  refine List.mem_of_getElem? (i := jj) ?_
                  rw [List.getElem?_take_of_lt hjj]
                  exact UW.get_getD (by omega)
                rw [List.mem_range] at hjm
                intro z
                have := eq_of_beq z
                omega
              rw [this]; rfl
    · rintro σ H1 ⟨ps, s3, s4, s5, rfl, s1, hf1, hpl, hpn, hpf, hpc⟩
      rw [txs_len] at hpl hpc
      rw [nk_all hgl] at hpl
      have hnk : (UW.firsts g).length ≤ g.length := UW.sub_len g _ (UW.firsts_nodup g) fun y hy => UW.firsts_mem.mp hy
      have hlenp : (ps.map V.ref).length = (UW.firsts g).length := by rw [List.length_map, hpl]
      refine ⟨_, rfl, fp, rfl, ⟨_, SqL.of hf1⟩, fun D hD => ?_⟩
      refine lc_keepH keep_same (walk_list (K := K) (a := fp) (xs := ps.map V.ref)) hD (by rw [hlenp]; exact small1000 (by omega)) (fun j y H => ∃ t, y = .ref t ∧ H t = some (.tup (txs (clsN ms g j)))) (fun H r => SqL.of (r _ _ hf1)) (fun _ _ _ _ _ r ⟨t, e, h⟩ => ⟨t, e, r _ _ h⟩)
        (fun _ _ _ _ _ _ hDa ⟨t, e, h⟩ => ⟨t, e, by rw [upd_ne (ne_of h hDa (by intro h; cases h))]; exact h⟩) (fun i x H3 H4 acc R hi r hDa hy hR => ?_) (fun ys H3 hly hgd3 r hDs => ?_)
      · rw [hlenp] at hi
        obtain ⟨rfl, ex⟩ := hy
        have hip : ps[i]? = some ps[i] := List.getElem?_eq_getElem (by omega)
        rw [refs_get hip] at ex
        obtain rfl := Option.some.inj ex
        refine ⟨rfl, ?_⟩
        refine ⟨_, rfl, ps[i], _, rfl, .inl ⟨SqL.of (r _ _ (hpc i _ hip)), fun u hu => ?_⟩⟩
        exact hR _ _ (sm_new hu) ⟨u, rfl, upd_same⟩
      · obtain ⟨qs, rfl⟩ : ∃ qs : List Addr, ys = qs.map V.ref := refs_of fun j y e => let ⟨t, e', _⟩ := hgd3 j y e; ⟨t, e'⟩
        refine nil1 ⟨D, _, rfl, .inl ⟨SqL.of hDs, fun l hl => ?_⟩⟩
        have s3 : Same H3 (upd H3 l (.tup (qs.map V.ref))) := sm_new hl
        refine k l qs _ ((s1.trans r).trans s3) upd_same (by rw [← hlenp, ← hly, List.length_map]) fun kk a ha => ?_
        obtain ⟨t, e, h⟩ := hgd3 kk (.ref a) (refs_get ha)
        cases e
        exact s3 _ _ h
end
end Toy
set_option maxHeartbeats 4000000
namespace Toy
open PySem L2 C8 SX LX
section
variable {P : Program} {w : World} {K : PySem.W.Frag} {mg : Str → Option Value} {base : Heap}
abbrev s_heard : Stmt := top 53
abbrev n_heard : List Str := ["made", "lot", "one", "other", "found", "e"]
theorem sc_heard : FnScope n_heard ["made", "lot", "one", "other"] (fnScope s_heard) := fnScope_by (by decide +kernel)
def spHeard (K : PySem.W.Frag) (C : Addr) (TT : List NdefX.NTab) : Sp := fun vs H Q _ => ∃ (a : Addr) (v u1 u2 : V) (sg : List Nat) (ms : List (List Nat)) (f : List Nat) (tg : List Nat → Nat → List Nat) (o : Option (List (Option (List Nat)))), vs = [.ref a, v, u1, u2] ∧ Rdr C H a sg ms f tg ∧ Good sg ms f tg ∧ LotY K H v o ∧ NdefX.TabsN TT H ∧
  (((¬ ∃ ls, LotOk ms o ls) ∧ ∀ H', Same H H' → Q (.str (Str.ofString "lot")) H') ∨
   ∃ (x y : List Nat) (ls : List (List Nat)), LotOk ms o ls ∧ u1 = .str (S x) ∧ u2 = .str (S y) ∧
    ((x ∉ ms ∧ ∀ (p : Addr) (H' : Hp), Same H H' → H' p = some (.lst [.str (Str.ofString "mark"), u1]) → Q (.ref p) H') ∨
     (x ∈ ms ∧ y ∉ ms ∧ ∀ (p : Addr) (H' : Hp), Same H H' → H' p = some (.lst [.str (Str.ofString "mark"), u2]) → Q (.ref p) H') ∨
     (x ∈ ms ∧ y ∈ ms ∧ ∀ H', LamX.ExtN H H' → NdefX.TabsN TT H' → Q (.str (Str.ofString "told")) H')))
theorem ok_heard {C CL CN C_RowError : Addr} {TT : List NdefX.NTab} (T : BT mg) (c_parting : CalX P w K mg base 5 "parting" (spParting K C CL CN TT)) (x_NoMark : XQ K mg "NoMark" CN) (n_NoMark : PySem.W.findIn K (.ref CN) "mark" = some none) (x_RowError : XG mg "RowError" C_RowError) (x_InvalidLot : XN K mg "InvalidLot" CL)
    (xIL : XC K CL) (sNN : PySem.W.subIn K (.ref CN) (.ref CN) = some true) (sLL : PySem.W.subIn K (.ref CL) (.ref CL) = some true) (sNL : PySem.W.subIn K (.ref CN) (.ref CL) = some false) (kLR : PySem.W.kitOne K (.ref CL) (.ref C_RowError) = some true)
    {f : Addr} {fd : FuncData} (F : Def K mg "_law_heard" s_heard f fd) (b : Binds K fd ["made", "lot", "one", "other"] []) : Cal P w K mg base 6 "_law_heard" (spHeard K C TT) [] := by
  refine cal0 F b .nil sc_heard (fun vs H Q E h => ?_) (fun cdv A outer s H vs Q E hr h => ?_)
  · obtain ⟨a, v, u1, u2, _, _, _, _, _, rfl, _⟩ := h; rfl
  · obtain ⟨a, v, u1, u2, sg, ms, f, tg, o, rfl, hrd, hgd, hv, hT, h⟩ := h
    refine ⟨_, (pss_cons (ps_set (i := 4) sc_heard.nd rfl (.inl rfl) pe_str)
      (pss_cons (ps_try_manyA rfl rfl sc_heard.nd takes_none5 (fun W pn xe tk pso => 
        (pss_one (ps_expr (pe_cX c_parting tk hr (by first | decide | omega) (by rfl) (pa_cons (pv 0) (pa_cons (pv 1) (pa_cons (pv 2) (pa_cons (pv 3) pa_nil))))))
        )) (.consA (i := 5) rfl rfl ⟨rfl, by decide, .inl x_InvalidLot.g⟩ (fun a oe cls d pn hz hf => 
        (pss_one (ps_set (i := 4) sc_heard.nd rfl (.inl rfl) (pe_ifExp (pt_val (pe_callB (call_isX hz hf) (by rfl) T.m_isinstance PyProof.Rows.boot_isinstance (pa_cons (pv 5) (pa_cons (pe_glob (v := .ref C_RowError) (by rfl) x_RowError.g rfl) pa_nil)))) pe_str pe_str))
        )) (.consA (i := 5) rfl rfl ⟨rfl, by decide, .inl x_NoMark.g⟩ (fun a oe cls d pn hz hf => 
        (pss_one (ps_set (i := 4) sc_heard.nd rfl (.inl rfl) (pe_lst (pa_cons pe_str (pa_cons (pe_xf x_NoMark.x.xf n_NoMark hz hf (pv 5)) pa_nil))))
        )) .nil)))
      (pss_one (ps_ret (pv 4))
      ))), ?_⟩
    refine ⟨_, rfl, _, rfl, _, rfl, _, rfl, a, v, u1, u2, sg, ms, f, tg, o, rfl, hrd, hgd, hv, hT, ?_⟩
    rcases h with ⟨hn, k⟩ | ⟨x, y, ls, hl, e1, e2, h⟩
    · refine .inl ⟨hn, fun H' s1 => ?_⟩
      refine ⟨true, xIL.exm sLL, fun _ e he => ?_, fun h => nomatch h⟩
      refine ⟨_, rfl, CL, _, _, true, rfl, xIL.exc, rfl, fun u hu => hu, kLR, .inl rfl, ?_⟩
      exact ⟨true, rfl, iteT ⟨_, rfl, k H' s1⟩⟩
    refine .inr ⟨x, y, ls, hl, e1, e2, ?_⟩
    have mk : ∀ (d : Addr) (H' : Hp) (u : V), Same H H' → H' d = some (.xd [("mark", u)]) → True := fun _ _ _ _ _ => trivial
    rcases h with ⟨hx, k⟩ | ⟨hx, hy, k⟩ | ⟨hx, hy, k⟩
    · refine .inl ⟨hx, fun d H' s1 hd => ?_⟩
      refine ⟨false, xIL.exm sNL, fun h => (nomatch h), fun _ => ?_⟩
      refine ⟨true, x_NoMark.x.exm sNN, fun _ e he => ?_, fun h => nomatch h⟩
      refine ⟨_, rfl, rfl, rfl, d, _, u1, rfl, hd, rfl, ?_⟩
      refine ⟨by show 2 ≤ sizeLine; decide, fun p hp => ?_⟩
      exact ⟨_, rfl, k p _ (s1.trans (sm_new hp)) upd_same⟩
    · refine .inr (.inl ⟨hx, hy, fun d H' s1 hd => ?_⟩)
      refine ⟨false, xIL.exm sNL, fun h => (nomatch h), fun _ => ?_⟩
      refine ⟨true, x_NoMark.x.exm sNN, fun _ e he => ?_, fun h => nomatch h⟩
      refine ⟨_, rfl, rfl, rfl, d, _, u2, rfl, hd, rfl, ?_⟩
      refine ⟨by show 2 ≤ sizeLine; decide, fun p hp => ?_⟩
      exact ⟨_, rfl, k p _ (s1.trans (sm_new hp)) upd_same⟩
    · exact .inr (.inr ⟨hx, hy, fun H' e1 hT1 => ⟨_, rfl, k H' e1 hT1⟩⟩)
theorem kv_tyL {H : Hp} {a : Addr} {xs : List V} (h : SqL K H a xs) : Kv K H (.ref a) none := .no (ty_seqL h) (kit_ty (a := "list") (by decide +kernel))
theorem notLot_none {ms : List (List Nat)} : ¬ ∃ ls, LotOk ms none ls := fun ⟨_, h, _⟩ => by cases h
theorem notLot_one {ms : List (List Nat)} {o : Option (List Nat)} (h : ∀ l, o = some l → l ∉ ms) : ¬ ∃ ls, LotOk ms (some [o]) ls := fun ⟨ls, h1, h2, _⟩ => by
  have h1 := Option.some.inj h1
  cases ls with
  | nil => cases h1
  | cons l ls =>
    rw [List.map_cons, List.cons.injEq] at h1
    exact h l h1.1 (h2 l List.mem_cons_self)
theorem notLot_two {ms : List (List Nat)} {m : List Nat} : ¬ ∃ ls, LotOk ms (some [some m, some m]) ls := fun ⟨ls, h1, _, h3⟩ => by
  have h1 := Option.some.inj h1
  cases ls with
  | nil => cases h1
  | cons a ls =>
    cases ls with
    | nil => cases h1
    | cons b ls =>
      rw [List.map_cons, List.map_cons, List.cons.injEq, List.cons.injEq] at h1
      have e1 := Option.some.inj h1.1
      have e2 := Option.some.inj h1.2.1
      subst e1; subst e2
      rw [List.nodup_cons] at h3
      exact h3.1 List.mem_cons_self
theorem lot_one {H : Hp} {p : Addr} {b : Bool} {x : V} {o : Option (List Nat)} (h : SqB K b H p [x]) (hk : Kv K H x o) : LotY K H (.ref p) (some [o]) :=
  .seq h rfl (by show 1 < 60; decide) (fun i x' o' e1 e2 => by
    cases i with
    | zero => cases e1; cases e2; exact hk
    | succ i => cases e1) (.inr fun ls e => by
    cases ls with
    | nil => exact .nil
    | cons a ls =>
      cases ls with
      | nil => simp
      | cons b ls => cases e)
theorem lot_nil {H : Hp} {p : Addr} {b : Bool} (h : SqB K b H p []) : LotY K H (.ref p) (some []) :=
  .seq h rfl (by show 0 < 60; decide) (fun i x' o' e1 e2 => by cases e1) (.inr fun ls e => by
    cases ls with
    | nil => exact .nil
    | cons a ls => cases e)
theorem lotOk_nil {ms : List (List Nat)} : LotOk ms (some []) [] := ⟨rfl, fun _ h => (nomatch h), .nil⟩
theorem lotOk_one {ms : List (List Nat)} {m : List Nat} (h : m ∈ ms) : LotOk ms (some [some m]) [m] := ⟨rfl, fun l hl => by rw [List.mem_singleton.mp hl]; exact h, by simp⟩
theorem s_qqqq : (Str.ofString "qqqq") = S [113, 113, 113, 113] := by decide +kernel
theorem s_zzzz : (Str.ofString "zzzz") = S [122, 122, 122, 122] := by decide +kernel
theorem s_mark : (Str.ofString "mark") = S [109, 97, 114, 107] := by decide +kernel
theorem odd_nm : [113, 113, 113, 113] ∉ nm8 ∧ [] ∉ nm8 ∧ [122, 122, 122, 122] ∉ nm8 ∧ ∀ m ∈ nm8, m ++ m ∉ nm8 := by decide +kernel
abbrev s_refused : Stmt := top 54
abbrev n_refused : List Str := ["made", "told", "mark", "odd"]
theorem sc_refused : FnScope n_refused ["made", "told"] (fnScope s_refused) := fnScope_by (by decide +kernel)
def spRefused (C : Addr) (TT : List NdefX.NTab) : Sp := fun vs H Q _ => ∃ (p a : Addr) (sg : List Nat) (ms : List (List Nat)) (f : List Nat) (tg : List Nat → Nat → List Nat) (pm pl : Addr) (ad : List Nat → Addr), vs = [.ref p, .ref a] ∧ Rdr C H p sg ms f tg ∧ Good sg ms f tg ∧ Told H a sg ms f tg pm pl ad ∧ (∀ m ∈ ms, m ∈ nm8) ∧ NdefX.TabsN TT H ∧
  ∀ H', LamX.ExtN H H' → NdefX.TabsN TT H' → Q (.bl true) H'
theorem ok_refused {C : Addr} {TT : List NdefX.NTab} (T : BT mg) (insC : InsC K C) (kS : PySem.W.kitAny K (.ref C) [.type "list", .type "tuple"] = some false) (c_heard : Cal P w K mg base 6 "_law_heard" (spHeard K C TT) [])
    {f : Addr} {fd : FuncData} (F : Def K mg "_law_refused_right" s_refused f fd) (b : Binds K fd ["made", "told"] []) : Cal P w K mg base 7 "_law_refused_right" (spRefused C TT) [] := by
  refine cal0 F b .nil sc_refused (fun vs H Q E h => ?_) (fun cdv A outer s H vs Q E hr h => ?_)
  · obtain ⟨p, a, _, _, _, _, _, _, _, rfl, _⟩ := h; rfl
  · obtain ⟨p, a, sg, ms, f, tg, pm, pl, ad, rfl, hrd, hgd, t, h8, hT, k⟩ := h
    refine ⟨_, (pss_cons (ps_set (i := 2) sc_refused.nd rfl (.inl rfl) (pe_ix (ixl K) (pe_dget (hu_of hr) (pv 1) pe_str (fun _ _ => rfl)) pe_int (fun _ _ => rfl)))
      (pss_cons (ps_for PassesOwn.never rfl (pi_tup (pe_tup (pa_cons pe_non (pa_cons pe_int (pa_cons (pv 2) (pa_cons (pe_lst (pa_cons (pv 2) (pa_cons (pv 2) pa_nil))) (pa_cons (pe_lst (pa_cons pe_str pa_nil)) (pa_cons (pe_lst (pa_cons pe_non pa_nil)) (pa_cons (pe_lst (pa_cons (pe_lst (pa_cons (pv 2) pa_nil)) pa_nil)) (pa_cons (pe_tup (pa_cons pe_int pa_nil)) (pa_cons (pv 0) pa_nil))))))))))) (pg_name (i := 3) sc_refused.nd rfl (.inl rfl)) 
        (pss_one (ps_if (PW.pt (pw_or (pt_cmpR op_ne (pe_c c_heard hr (by first | decide | omega) (by rfl) (pa_cons (pv 0) (pa_cons (pv 3) (pa_cons (pv 2) (pa_cons (pv 2) pa_nil))))) pe_str (nomark _)) (pw_or1 (pt_cmpR op_ne (pe_c c_heard hr (by first | decide | omega) (by rfl) (pa_cons (pv 0) (pa_cons (pv 3) (pa_cons pe_str (pa_cons pe_non pa_nil))))) pe_str (nomark _))))) 
          (pss_one (ps_ret pe_bl)
          )
         pss_nil)
        ))
      (pss_cons (ps_for PassesOwn.never rfl (pi_tup (pe_tup (pa_cons pe_str (pa_cons pe_str (pa_cons (pe_op op_add_str (pv 2) (pv 2)) (pa_cons pe_str pa_nil)))))) (pg_name (i := 3) sc_refused.nd rfl (.inl rfl)) 
        (pss_one (ps_if (PW.pt (pw_or (pt_cmpR (op_neSs hr) (pe_c c_heard hr (by first | decide | omega) (by rfl) (pa_cons (pv 0) (pa_cons (pe_lst pa_nil) (pa_cons (pv 3) (pa_cons (pv 2) pa_nil))))) (pe_lst (pa_cons pe_str (pa_cons (pv 3) pa_nil))) (nomark _)) (pw_or1 (pt_cmpR (op_neSs hr) (pe_c c_heard hr (by first | decide | omega) (by rfl) (pa_cons (pv 0) (pa_cons (pe_lst (pa_cons (pv 2) pa_nil)) (pa_cons (pv 2) (pa_cons (pv 3) pa_nil))))) (pe_lst (pa_cons pe_str (pa_cons (pv 3) pa_nil))) (nomark _))))) 
          (pss_one (ps_ret pe_bl)
          )
         pss_nil)
        ))
      (pss_one (ps_ret (pe_and (pe_cmpR (op_eqSs hr) (pe_c c_heard hr (by first | decide | omega) (by rfl) (pa_cons (pv 0) (pa_cons (pe_tup pa_nil) (pa_cons pe_str (pa_cons pe_str pa_nil))))) (pe_lst (pa_cons pe_str (pa_cons pe_str pa_nil))) (nomark _)) (pe_one (pe_cmpR op_eq (pe_c c_heard hr (by first | decide | omega) (by rfl) (pa_cons (pv 0) (pa_cons (pe_lst (pa_cons (pv 2) pa_nil)) (pa_cons (pv 2) (pa_cons (pv 2) pa_nil))))) pe_str (nomark _)))))
      )))), ?_⟩
    obtain ⟨mk, hmk⟩ : ∃ mk, ms[0]? = some mk := ⟨_, List.getElem?_eq_getElem (by have := hgd.h1; omega)⟩
    have hmm : mk ∈ ms := List.mem_of_getElem? hmk
    obtain ⟨o1, o2, o3, o4⟩ := odd_nm
    have n1 : [113, 113, 113, 113] ∉ ms := fun h => o1 (h8 _ h)
    have n2 : [] ∉ ms := fun h => o2 (h8 _ h)
    have n3 : [122, 122, 122, 122] ∉ ms := fun h => o3 (h8 _ h)
    have n4 : mk ++ mk ∉ ms := fun h => o4 mk (h8 _ hmm) (h8 _ h)
    have hml : mk.length ≤ 6 := (hgd.hnm mk hmm).2.1
    refine ⟨_, rfl, _, _, rfl, t.marks, pm, txs ms, 0, .str (S mk), rfl, rfl, SqL.of t.hpm, at_of rfl (by unfold txs; rw [List.getElem?_map, hmk]; rfl), ?_⟩
    refine ⟨_, rfl, _, rfl, _, rfl, by show 2 ≤ sizeLine; decide, fun p1 h1 => ?_⟩
    have q1 : Same H (upd H p1 (.lst [.str (S mk), .str (S mk)])) := sm_new h1
    have e1 : (upd H p1 (.lst [.str (S mk), .str (S mk)])) p1 = some (.lst [.str (S mk), .str (S mk)]) := upd_same
    generalize upd H p1 (.lst [.str (S mk), .str (S mk)]) = H1 at q1 e1 ⊢
    refine ⟨by show 1 ≤ sizeLine; decide, fun p2 h2 => ?_⟩
    rw [s_qqqq]
    have q2 : Same H1 (upd H1 p2 (.lst [.str (S [113, 113, 113, 113])])) := sm_new h2
    have e2 : (upd H1 p2 (.lst [.str (S [113, 113, 113, 113])])) p2 = some (.lst [.str (S [113, 113, 113, 113])]) := upd_same
    generalize upd H1 p2 (.lst [.str (S [113, 113, 113, 113])]) = H2 at q2 e2 ⊢
    refine ⟨by show 1 ≤ sizeLine; decide, fun p3 h3 => ?_⟩
    have q3 : Same H2 (upd H2 p3 (.lst [.non])) := sm_new h3
    have e3 : (upd H2 p3 (.lst [.non])) p3 = some (.lst [.non]) := upd_same
    generalize upd H2 p3 (.lst [.non]) = H3 at q3 e3 ⊢
    refine ⟨_, rfl, by show 1 ≤ sizeLine; decide, fun p4 h4 => ?_⟩
    have q4 : Same H3 (upd H3 p4 (.lst [.str (S mk)])) := sm_new h4
    have e4 : (upd H3 p4 (.lst [.str (S mk)])) p4 = some (.lst [.str (S mk)]) := upd_same
    generalize upd H3 p4 (.lst [.str (S mk)]) = H4 at q4 e4 ⊢
    refine ⟨by show 1 ≤ sizeLine; decide, fun p5 h5 => ?_⟩
    have q5 : Same H4 (upd H4 p5 (.lst [.ref p4])) := sm_new h5
    have e5 : (upd H4 p5 (.lst [.ref p4])) p5 = some (.lst [.ref p4]) := upd_same
    generalize upd H4 p5 (.lst [.ref p4]) = H5 at q5 e5 ⊢
    refine ⟨by show 1 ≤ sizeLine; decide, fun p6 h6 => ?_⟩
    have q6 : Same H5 (upd H5 p6 (.tup [.int 3])) := sm_new h6
    have e6 : (upd H5 p6 (.tup [.int 3])) p6 = some (.tup [.int 3]) := upd_same
    generalize upd H5 p6 (.tup [.int 3]) = H6 at q6 e6 ⊢
    refine ⟨_, rfl, by show 9 ≤ sizeLine; decide, fun p7 h7 => ?_⟩
    have q7 : Same H6 (upd H6 p7 (.tup [.non, .int 3, .str (S mk), .ref p1, .ref p2, .ref p3, .ref p5, .ref p6, .ref p])) := sm_new h7
    have e7 : (upd H6 p7 (.tup [.non, .int 3, .str (S mk), .ref p1, .ref p2, .ref p3, .ref p5, .ref p6, .ref p])) p7 = some (.tup [.non, .int 3, .str (S mk), .ref p1, .ref p2, .ref p3, .ref p5, .ref p6, .ref p]) := upd_same
    generalize upd H6 p7 (.tup [.non, .int 3, .str (S mk), .ref p1, .ref p2, .ref p3, .ref p5, .ref p6, .ref p]) = H7 at q7 e7 ⊢
    have q67 := q6.trans q7
    have q57 := q5.trans q67
    have q47 := q4.trans q57
    have q37 := q3.trans q47
    have q27 := q2.trans q37
    have q07 := q1.trans q27
    have items : ∀ (i : Nat) x, [V.non, .int 3, .str (S mk), .ref p1, .ref p2, .ref p3, .ref p5, .ref p6, .ref p][i]? = some x → ∃ o, LotY K H7 x o ∧ ¬ ∃ ls, LotOk ms o ls := fun i x e => by
      match i, e with
      | 0, e => cases e; exact ⟨_, .no (.base .non) (kit_noseq (a := "NoneType") (kit_ty (by decide +kernel)) (kit_ty (by decide +kernel))), notLot_none⟩
      | 1, e => cases e; exact ⟨_, .no (.base (.int _)) (kit_noseq (a := "int") (kit_ty (by decide +kernel)) (kit_ty (by decide +kernel))), notLot_none⟩
      | 2, e => cases e; exact ⟨_, .no (.base (.str _)) (kit_noseq (a := "str") (kit_ty (by decide +kernel)) (kit_ty (by decide +kernel))), notLot_none⟩
      | 3, e =>
        cases e
        refine ⟨some [some mk, some mk], .seq (b := true) (SqL.of (q27 _ _ e1)) rfl (by show 2 < 60; decide) (fun i x' o' e1 e2 => ?_) (.inl rfl), notLot_two⟩
        match i, e1, e2 with
        | 0, e1, e2 => cases e1; cases e2; exact .txt _
        | 1, e1, e2 => cases e1; cases e2; exact .txt _
        | _ + 2, e1, _ => cases e1
      | 4, e => cases e; exact ⟨_, lot_one (b := true) (SqL.of (q37 _ _ e2)) (.txt _), notLot_one fun l hl => by cases hl; exact n1⟩
      | 5, e => cases e; exact ⟨_, lot_one (b := true) (SqL.of (q47 _ _ e3)) (.no (.base .non) (kit_ty (a := "NoneType") (by decide +kernel))), notLot_one fun l hl => by cases hl⟩
      | 6, e => cases e; exact ⟨_, lot_one (b := true) (SqL.of (q67 _ _ e5)) (kv_tyL (SqL.of (q57 _ _ e4))), notLot_one fun l hl => by cases hl⟩
      | 7, e => cases e; exact ⟨_, lot_one (b := false) (SqT.of (q7 _ _ e6)) (.no (.base (.int _)) (kit_ty (a := "int") (by decide +kernel))), notLot_one fun l hl => by cases hl⟩
      | 8, e =>
        cases e
        obtain ⟨dx, m, st, nu, le, sa, la, co, ca, r, hcol⟩ := hrd.same q07
        exact ⟨_, .no (.base (.ins r.ha insC.cl insC.ha insC.hn insC.htk insC.hm)) kS, notLot_none⟩
      | n + 9, e => simp at e
    clear e6 e5 e4 e3 e2 e1 h7 h6 h5 h4 h3 h2 h1 q67 q57 q47 q37 q27 q1 q2 q3 q4 q5 q6 q7
    refine ⟨p7, rfl, ⟨_, SqT.of e7⟩, for_it (walk_tup (K := K) (a := p7) (xs := [V.non, .int 3, .str (S mk), .ref p1, .ref p2, .ref p3, .ref p5, .ref p6, .ref p])) (fun i σ H' => ∃ s3 : Option V, σ = [some (.ref p), some (.ref a), some (.str (S mk)), s3] ∧ Same H7 H')
      ⟨none, rfl, Same.refl _⟩ (fun i σ H' _ ⟨_, _, e⟩ => SqT.of (e _ _ e7)) ?_ ?_⟩
    · rintro i x σ H8 H8' hi ⟨s3, rfl, s8⟩ ⟨rfl, ex⟩
      obtain ⟨o, hy, hn⟩ := items i x ex
      have s08 := q07.trans s8
      refine ⟨_, rfl, _, rfl, _, rfl, _, rfl, p, x, _, _, sg, ms, f, tg, o, rfl, hrd.same s08, hgd, hy.same s8, hT.ext s08, .inl ⟨hn, fun H9 s9 => ?_⟩⟩
      have s09 := s08.trans s9
      refine ⟨rfl, _, rfl, iteN (by simp) ?_⟩
      refine ⟨_, rfl, _, rfl, p, x, _, _, sg, ms, f, tg, o, rfl, hrd.same s09, hgd, hy.same (s8.trans s9), hT.ext s09, .inl ⟨hn, fun H10 s10 => ?_⟩⟩
      refine ⟨rfl, _, rfl, iteN (by simp) ?_⟩
      exact ⟨_, rfl, (s8.trans s9).trans s10⟩
    · rintro σ H8 ⟨s3, rfl, s8⟩
      have s08 := q07.trans s8
      refine ⟨_, rfl, _, rfl, S mk, S mk, rfl, rfl, by rw [S_len]; exact sz (m := 100) (by omega) (by decide), by show 4 ≤ sizeLine; decide, fun r hr => ?_⟩
      rw [s_nil, s_zzzz, S_cat, s_mark]
      have qr : Same H8 (upd H8 r (.tup [.str (S [113, 113, 113, 113]), .str (S []), .str (S (mk ++ mk)), .str (S [122, 122, 122, 122])])) := sm_new hr
      have er : (upd H8 r (.tup [.str (S [113, 113, 113, 113]), .str (S []), .str (S (mk ++ mk)), .str (S [122, 122, 122, 122])])) r = some (.tup [.str (S [113, 113, 113, 113]), .str (S []), .str (S (mk ++ mk)), .str (S [122, 122, 122, 122])]) := upd_same
      generalize upd H8 r (.tup [.str (S [113, 113, 113, 113]), .str (S []), .str (S (mk ++ mk)), .str (S [122, 122, 122, 122])]) = H9 at qr er ⊢
      have s09 := s08.trans qr
      have odds : ∀ (i : Nat) x, [V.str (S [113, 113, 113, 113]), .str (S []), .str (S (mk ++ mk)), .str (S [122, 122, 122, 122])][i]? = some x → ∃ y : List Nat, x = .str (S y) ∧ y ∉ ms ∧ Small [[109, 97, 114, 107], y] := fun i x e => by
        have hmk : ∀ c ∈ mk, c < 1114112 := fun c hc => by have := (hgd.hnm mk hmm).2.2.1 c hc; omega
        have sm : ∀ y : List Nat, (∀ c ∈ y, c < 1114112) → Small [[109, 97, 114, 107], y] := fun y hy l hl => by
          rcases List.mem_cons.mp hl with rfl | hl
          · decide
          · rw [List.mem_singleton.mp hl]; exact hy
        match i, e with
        | 0, e => cases e; exact ⟨_, rfl, n1, sm _ (by decide)⟩
        | 1, e => cases e; exact ⟨_, rfl, n2, sm _ (by decide)⟩
        | 2, e => cases e; exact ⟨_, rfl, n4, sm _ fun c hc => (List.mem_append.mp hc).elim (hmk c) (hmk c)⟩
        | 3, e => cases e; exact ⟨_, rfl, n3, sm _ (by decide)⟩
        | n + 4, e => simp at e
      refine ⟨r, rfl, ⟨_, SqT.of er⟩, for_it (walk_tup (K := K) (a := r) (xs := [V.str (S [113, 113, 113, 113]), .str (S []), .str (S (mk ++ mk)), .str (S [122, 122, 122, 122])])) (fun i σ H' => ∃ s3 : Option V, σ = [some (.ref p), some (.ref a), some (.str (S mk)), s3] ∧ Same H9 H')
        ⟨_, rfl, Same.refl _⟩ (fun i σ H' _ ⟨_, _, e⟩ => SqT.of (e _ _ er)) ?_ ?_⟩
      · rintro i x σ H10 H10' hi ⟨s3, rfl, s10⟩ ⟨rfl, ex⟩
        obtain ⟨y, rfl, hy, hsm⟩ := odds i x ex
        have s010 := s09.trans s10
        refine ⟨_, rfl, by show 0 ≤ sizeLine; exact Nat.zero_le _, fun l hl => ?_⟩
        have s11 := s10.trans (sm_new (o := .lst []) hl)
        have s011 := s09.trans s11
        refine ⟨_, rfl, _, rfl, p, .ref l, _, _, sg, ms, f, tg, some [], rfl, hrd.same s011, hgd, lot_nil (b := true) (SqL.of upd_same), hT.ext s011, .inr ⟨y, mk, [], lotOk_nil, rfl, rfl, .inl ⟨hy, fun v H12 s12 hv => ?_⟩⟩⟩
        have s12' := s11.trans s12
        refine ⟨_, rfl, by show 2 ≤ sizeLine; decide, fun z hz => ?_⟩
        rw [s_mark] at hv
        have s13 := s12'.trans (sm_new (o := .lst [.str (S [109, 97, 114, 107]), .str (S y)]) hz)
        have hv13 := (sm_new (o := .lst [.str (S [109, 97, 114, 107]), .str (S y)]) hz) _ _ hv
        refine ⟨v, z, [[109, 97, 114, 107], y], [[109, 97, 114, 107], y], rfl, rfl, .inl ⟨SqL.of hv13, SqL.of upd_same⟩, hsm, hsm, _, rfl, iteN (by simp) ?_⟩
        generalize upd H12 z (.lst [.str (S [109, 97, 114, 107]), .str (S y)]) = H13 at s13 ⊢
        have s013 := s09.trans s13
        refine ⟨_, rfl, _, rfl, by show 1 ≤ sizeLine; decide, fun l2 hl2 => ?_⟩
        have s14 := s13.trans (sm_new (o := .lst [.str (S mk)]) hl2)
        have s014 := s09.trans s14
        refine ⟨_, rfl, _, rfl, p, .ref l2, _, _, sg, ms, f, tg, some [some mk], rfl, hrd.same s014, hgd, lot_one (b := true) (SqL.of upd_same) (.txt _), hT.ext s014, .inr ⟨mk, y, [mk], lotOk_one hmm, rfl, rfl, .inr (.inl ⟨hmm, hy, fun v2 H15 s15 hv2 => ?_⟩)⟩⟩
        have s15' := s14.trans s15
        refine ⟨_, rfl, by show 2 ≤ sizeLine; decide, fun z2 hz2 => ?_⟩
        rw [s_mark] at hv2
        have s16 := s15'.trans (sm_new (o := .lst [.str (S [109, 97, 114, 107]), .str (S y)]) hz2)
        have hv16 := (sm_new (o := .lst [.str (S [109, 97, 114, 107]), .str (S y)]) hz2) _ _ hv2
        refine ⟨v2, z2, [[109, 97, 114, 107], y], [[109, 97, 114, 107], y], rfl, rfl, .inl ⟨SqL.of hv16, SqL.of upd_same⟩, hsm, hsm, _, rfl, iteN (by simp) ?_⟩
        exact ⟨_, rfl, s16⟩
      · rintro σ H10 ⟨s3, rfl, s10⟩
        have s010 := s09.trans s10
        refine ⟨_, rfl, by show 0 ≤ sizeLine; exact Nat.zero_le _, fun l hl => ?_⟩
        have s11 := s10.trans (sm_new (o := .tup []) hl)
        have s011 := s09.trans s11
        refine ⟨p, .ref l, _, _, sg, ms, f, tg, some [], rfl, hrd.same s011, hgd, lot_nil (b := false) (SqT.of upd_same), hT.ext s011, .inr ⟨_, _, [], lotOk_nil, rfl, rfl, .inl ⟨n1, fun v H12 s12 hv => ?_⟩⟩⟩
        have s12' := s11.trans s12
        refine ⟨by show 2 ≤ sizeLine; decide, fun z hz => ?_⟩
        rw [s_mark] at hv
        have s13 := s12'.trans (sm_new (o := .lst [.str (S [109, 97, 114, 107]), .str (S [113, 113, 113, 113])]) hz)
        have hv13 := (sm_new (o := .lst [.str (S [109, 97, 114, 107]), .str (S [113, 113, 113, 113])]) hz) _ _ hv
        have hsm : Small [[109, 97, 114, 107], [113, 113, 113, 113]] := by unfold Small; decide
        refine ⟨v, z, [[109, 97, 114, 107], [113, 113, 113, 113]], [[109, 97, 114, 107], [113, 113, 113, 113]], rfl, rfl, .inl ⟨SqL.of hv13, SqL.of upd_same⟩, hsm, hsm, ?_⟩
        generalize upd H12 z (.lst [.str (S [109, 97, 114, 107]), .str (S [113, 113, 113, 113])]) = H13 at s13 ⊢
        have s013 := s09.trans s13
        refine ⟨_, rfl, iteB (by simp) ?_⟩
        refine ⟨_, rfl, _, rfl, by show 1 ≤ sizeLine; decide, fun l2 hl2 => ?_⟩
        have s14 := s13.trans (sm_new (o := .lst [.str (S mk)]) hl2)
        have s014 := s09.trans s14
        refine ⟨_, rfl, _, rfl, p, .ref l2, _, _, sg, ms, f, tg, some [some mk], rfl, hrd.same s014, hgd, lot_one (b := true) (SqL.of upd_same) (.txt _), hT.ext s014, .inr ⟨mk, mk, [mk], lotOk_one hmm, rfl, rfl, .inr (.inr ⟨hmm, hmm, fun H15 e15 hT15 => ?_⟩)⟩⟩
        refine ⟨rfl, ?_⟩
        have := k H15 ((extN_same s014).trans e15) hT15
        simpa using this
end
end Toy
set_option maxHeartbeats 2000000
namespace LX
open PySem PySem.Spec PyProof.Rows L2 C8 SX
section
variable {X : Cx}
def tRevLX (K : PySem.W.Frag) (te ts : TE) : TE := fun σ H Q => te σ H fun x H1 => ts σ H1 fun y H2 => ∃ i, y = .int i ∧ (some i = some (-1) ∧ ∃ (a : Addr) (xs : List V), x = .ref a ∧ SqL K H2 a xs ∧ ∀ p, H2 p = none → Q (.ref p) (upd H2 p (.lst xs.reverse)))
theorem pe_revLX {e st : Expr} {te ts : TE} {p3 pos : Pos} (K : PySem.W.Frag) (he : PE X e te) (hs : PE X st ts) (hK : X.K = K := by rfl) : PE X (.Subscript e (.Slice none none (some st) p3) pos) (tRevLX K te ts) := by
  subst hK
  refine ⟨fun pins s σ H Q I h => ?_⟩
  refine Subscript_ (thn (he.run pins s σ H _ I h) fun v s1 ⟨x, H1, I1, r1, q1⟩ => ?_)
  have hst : PO X (some st) (tPart ts) := po_some hs
  refine wpAny_Slice (thn (po_none.run pins s1 σ H1 (fun o H2 => o = none ∧ H2 = H1) I1 ⟨rfl, rfl⟩) fun vl s2 ⟨l, H2, I2, pl, el, e2⟩ => ?_)
  subst el e2
  refine thn (po_none.run pins s2 σ H2 (fun o H3 => o = none ∧ H3 = H2) I2 ⟨rfl, rfl⟩) fun vu s3 ⟨u, H3, I3, pu, eu, e3⟩ => ?_
  subst eu e3
  refine thn (hst.run pins s3 σ H3 (fun o H4 => o = some (-1) ∧ ∃ (a : Addr) (xs : List V), x = .ref a ∧ SqL X.K H4 a xs ∧ ∀ p, H4 p = none → Q (.ref p) (upd H4 p (.lst xs.reverse))) I3 q1) fun vs s4 ⟨o, H4, I4, ps, eo, a, xs, ex, hx, q⟩ => ?_
  subst eo ex
  cases r1
  have I5 : Inv X pins σ H4 { s4 with heap := s4.heap.push { cls := .type "slice", data := .fields #[vl, vu, vs] } } := I4.kept (t' := s4.toks) fun b ob q => Heap.get?_push_of_some _ q
  obtain ⟨its, r, ht, hz⟩ := I5.list hx
  have hlen := r.length
  show wpAny (model X.prog X.w) X.A (subscriptTail e (.Slice none none (some st) p3) (.ref a) (.ref s4.heap.objs.size)) (EP X pins σ Q) X.xe { s4 with heap := s4.heap.push { cls := .type "slice", data := .fields #[vl, vu, vs] } }
  refine tail_any (ops := [.ref a, .ref s4.heap.objs.size]) ht.isList.typeIs (PySem.slot_list_getitem.lookup) ?_ (by with_unfolding_all rfl)
  refine wpAny_getItem_list_slice ht.isList (Heap.IsSliceOf.new _ vl vu vs) pl pu ps (by decide) ?_ (by rw [List.size_toArray]; omega)
  rw [PySem.W.krv_pick]
  refine ⟨.ref _, _, I5.laid (t' := s4.toks) (o := .lst xs.reverse) (fun b ob q => Heap.get?_push_of_some _ q) (Nat.le_refl _) ?_, rfl, q _ (I5.hok.fresh (Nat.le_refl _))⟩
  exact ⟨by rw [List.length_reverse]; exact hz, _, 0, r.reverse, Heap.get?_push_size _ rfl⟩
end
def NL (H H' : Hp) : Prop := ∀ a o, H a = some o → (∀ xs, o ≠ .lst xs) → H' a = some o
theorem NL.refl (H : Hp) : NL H H := fun _ _ e _ => e
theorem NL.trans {H H1 H2 : Hp} (p : NL H H1) (q : NL H1 H2) : NL H H2 := fun a o e n => q a o (p a o e n) n
theorem nl_same {H H' : Hp} (s : Same H H') : NL H H' := fun a o e _ => s a o e
theorem nl_lset {H : Hp} {a : Addr} {xs ys : List V} (h : H a = some (.lst xs)) : NL H (upd H a (.lst ys)) := fun b o e n => by
  rw [upd_ne (fun z => by rw [z, h] at e; exact n xs (Option.some.inj e).symm)]; exact e
end LX
set_option maxHeartbeats 2000000
namespace LX
open PySem PySem.Spec PyProof.Rows L2 C8 SX
section
variable {X : Cx} {k j : Nat} {C : Addr} {sp : Sp}
theorem met_run0 {mth : Str} {pins : List (Addr × Obj)} {σ : L2.St} {H : Hp} {s : Shared} {A : Around} {a : Addr} {Q : Value → Shared → Prop} (c : Met X.prog X.w X.K X.mg X.base k C mth sp []) (hr : Room k A) (hfr : A.frames = X.A.frames) (I : Inv X pins σ H s)
    {R : VK} (hsp : sp [.ref a] H R C8.E0) (hQ : ∀ v z H' s', Inv X pins σ H' s' → RelV z v → R z H' → Q v s') :
    ∃ f, PySem.W.findIn X.K (.ref C) mth = some (some (.ref f)) ∧ PySem.W.isFn X.K (.ref f) = true ∧ wpAny (model X.prog X.w) A (call (.ref f) [.ref a]) Q X.xe s := by
  obtain ⟨f, fd, ps, ds, hc, hm, F, hb, hd⟩ := c.ex
  refine ⟨f, hm.at_, hm.fn, ?_⟩
  have e0 : Env0 X.prog X.w X.K X.mg X.base A X.stack s H := by
    have e := I.env0
    exact ⟨by rw [hfr]; exact e.frames, e.mod, e.bs, e.bsz, e.funs, e.frf, e.hok, e.bare⟩
  have hds : ds = [] := by cases hd; rfl
  subst hds
  have hl := F.len _ _ _ _ hsp
  have r2 : Vals [V.ref a] [Value.ref a] := .cons rfl .nil
  refine wpAny_call (codeAny_mono (F.run A X.stack s H ⟨[.ref a], []⟩ [.ref a] [.ref a] _ C8.E0 hr e0 (by
    have := hb s [.ref a] I.kIn (by simpa using hl)
    simpa using this) r2 hsp) fun r s' hq => ?_)
  cases r with
  | error e => exact C8.pass0 (E := C8.E0) pins σ H s e s' I hq
  | ok fl =>
    cases fl with
    | ret w =>
      obtain ⟨z, H', I', rz, q⟩ := I.after hq
      exact hQ w z H' s' I' rz q
    | next => exact False.elim hq
    | brk => exact False.elim hq
    | cont => exact False.elim hq
theorem call_strI (c : Met X.prog X.w X.K X.mg X.base k C "__str__" sp []) (hr : Room j X.A) (hk : k + 2 ≤ j) : CallR X (.type "str") (fun xs H Q => ∃ a dx fs, xs = [.ref a] ∧ H a = some (.ins C dx fs) ∧ sp [.ref a] H (fun v H' => ∃ z, v = .str z ∧ Q (.str z) H') C8.E0) := by
  intro pins s σ H xs us Q I rel want
  obtain ⟨a, dx, fs, rfl, ha, hsp⟩ := want
  obtain ⟨u, rfl, ru⟩ := vals1 rel
  cases ru
  obtain ⟨mA, J, _⟩ := ins_get I.hok ha
  obtain ⟨od, J, _⟩ := J.look
  have r2 : Room k X.A.in1.in1 := (hr.mono hk).in1.in1
  obtain ⟨f, hs, hf, hw⟩ := met_run0 (A := X.A.in1.in1) (Q := PySem.W.StrBack (EP X pins σ Q)) c r2 rfl I hsp (fun v z H' s' I' rz q => by
    obtain ⟨y, rfl, q⟩ := q
    obtain ⟨t, rfl⟩ := rz
    exact ⟨.str y, H', I', ⟨t, rfl⟩, q⟩)
  exact PySem.W.kso_call r2.units0 I.kIn J hs hf hw
end
end LX
set_option maxHeartbeats 2000000
namespace LX
open PySem PySem.Spec PyProof.Rows L2 C8 SX
section
variable {X : Cx} {j : Nat}
def repO : Option (List Nat) → Str
  | some r => PyData.shown (.str (S r))
  | none => "None"
theorem call_reprO : CallR X (.builtin "repr") (fun xs H Q => ∃ r : Option (List Nat), (xs = [match r with | some r => .str (S r) | none => .non]) ∧ (∀ l, r = some l → l.length ≤ 1000 ∧ ∀ c ∈ l, c < 1114112) ∧ Q (.str (repO r)) H) := by
  intro pins s σ H xs us Q I rel want
  obtain ⟨r, rfl, hl, q⟩ := want
  obtain ⟨u, rfl, ru⟩ := vals1 rel
  cases r with
  | none =>
    obtain rfl : u = Value.none := ru
    exact PySem.P.repr_of_none ⟨.str (repO none), H, I.kept (t' := s.toks + 1) fun _ _ e => e, ⟨_, rfl⟩, q⟩
  | some l =>
    obtain ⟨t, rfl⟩ : ∃ t, u = Value.str (S l) t := ru
    obtain ⟨h1, h2⟩ := hl l rfl
    refine PySem.P.repr_of_str ⟨.str (repO (some l)), H, I.kept (t' := s.toks + 1) fun _ _ e => e, ⟨_, rfl⟩, q⟩ ?_
    exact (Fit.text (k := 0) h2 h1).size (by decide)
end
end LX
set_option maxHeartbeats 8000000
namespace Toy
open PySem L2 C8 SX LX
theorem Mch.good {sg : List Nat} {ms : List (List Nat)} {f : List Nat} {tg : List Nat → Nat → List Nat} {n : Nat} (m : Mch sg ms f tg n) (hn : n ≤ 7) : Good sg ms f tg :=
  ⟨m.hsg, m.hms.1, m.hms.2.1, by have := m.hms.2.2.1; omega, fun x hx => by
    have h : x ∈ nm8 := m.hms.2.2.2 x hx
    simp only [nm8, List.mem_cons, List.mem_nil_iff, or_false] at h
    rcases h with rfl | rfl | rfl | rfl | rfl | rfl | rfl | rfl <;> decide, m.hf, m.htg⟩
theorem ext_lst {H H' : Hp} {a : Addr} {xs : List V} (s : LamX.ExtN H H') (h : H a = some (.lst xs)) : H' a = some (.lst xs) := s _ _ h (by intro _ z; cases z)
theorem Told.ext {H H' : Hp} {a : Addr} {sg : List Nat} {ms : List (List Nat)} {f : List Nat} {tg : List Nat → Nat → List Nat} {pm pl : Addr} {ad : List Nat → Addr} (t : Told H a sg ms f tg pm pl ad) (s : LamX.ExtN H H') : Told H' a sg ms f tg pm pl ad :=
  ⟨s _ _ t.ha (by intro _ z; cases z), s _ _ t.hpm (by intro _ z; cases z), s _ _ t.hpl (by intro _ z; cases z), fun m h => s _ _ (t.had m h) (by intro _ z; cases z)⟩
theorem rdr_bx {C : Addr} {H H' : Hp} {b a : Addr} {sg : List Nat} {ms : List (List Nat)} {f : List Nat} {tg : List Nat → Nat → List Nat} (hb : BoxAt b H) (r : Rdr C H a sg ms f tg) (s : Bx b H H') : Rdr C H' a sg ms f tg := by
  obtain ⟨dx, m, st, nu, le, sa, la, co, ca, h, hc⟩ := r
  have n : ∀ {x : Addr} {o : HO}, H x = some o → (∀ xs, o ≠ .lst xs) → H' x = some o := fun {x o} e ne => s.1 _ _ (fun z => by
    obtain ⟨o2, e2, p, q, w, rfl⟩ := hb
    rw [z, e2] at e
    exact ne _ (Option.some.inj e).symm) e
  exact ⟨dx, m, st, nu, le, sa, la, co, ca, ⟨n h.ha (by intro _ z; cases z), n h.hm (by intro _ z; cases z), n h.hst (by intro _ z; cases z), fun x hx => n (h.hsa x hx) (by intro _ z; cases z), n h.hnu (by intro _ z; cases z), n h.hle (by intro _ z; cases z), fun x hx => n (h.hla x hx) (by intro _ z; cases z)⟩, ⟨n hc.hco (by intro _ z; cases z), fun c hx => n (hc.hca c hx) (by intro _ z; cases z)⟩⟩
structure Live (TT : List NdefX.NTab) (C : Addr) (H H' : Hp) (b ta : Addr) (sg : List Nat) (ms : List (List Nat)) (f : List Nat) (tg : List Nat → Nat → List Nat) (pm pl : Addr) (ad : List Nat → Addr) (p : Addr) : Prop where
  nb : H b = none
  npm : pm ≠ b
  ext : LamX.ExtN H H'
  tabs : NdefX.TabsN TT H'
  box : BoxAt b H'
  told : Told H' ta sg ms f tg pm pl ad
  rdr : Rdr C H' p sg ms f tg
section
variable {TT : List NdefX.NTab} {C : Addr} {H H' H2 : Hp} {b ta : Addr} {sg : List Nat} {ms : List (List Nat)} {f : List Nat} {tg : List Nat → Nat → List Nat} {pm pl : Addr} {ad : List Nat → Addr} {p : Addr}
theorem box_same (hb : BoxAt b H) (s : Same H H') : BoxAt b H' := let ⟨o, e, h⟩ := hb; ⟨o, s _ _ e, h⟩
theorem ext_bx (s : LamX.ExtN H H') (nb : H b = none) (q : Bx b H' H2) : LamX.ExtN H H2 := fun a o e n => q.1 a o (ne_of_none e nb) (s a o e n)
theorem tabs_bx (t : NdefX.TabsN TT H) (hb : BoxAt b H) (s : Bx b H H') : NdefX.TabsN TT H' := fun p hp => by
  obtain ⟨ps, h1, h2, h3⟩ := t p hp
  have n : ∀ {x : Addr} {o : HO}, H x = some o → (∀ xs, o ≠ .lst xs) → H' x = some o := fun {x o} e ne => s.1 _ _ (fun z => by
    obtain ⟨o2, e2, p, q, w, rfl⟩ := hb
    rw [z, e2] at e
    exact ne _ (Option.some.inj e).symm) e
  refine ⟨ps, n h1 (by intro _ z; cases z), h2, fun pos cv hc => ?_⟩
  obtain ⟨c, e1, e2⟩ := h3 pos cv hc
  exact ⟨c, e1, n e2 (by intro _ z; cases z)⟩
theorem ext_seq {K : PySem.W.Frag} {a : Addr} {xs : List V} (s : LamX.ExtN H H') (h : SqL K H a xs) : SqL K H' a xs := by
  rcases h with (h | ⟨o, h⟩) | h
  · exact .inl (.inl (s _ _ h (by intro _ z; cases z)))
  · exact .inl (.inr ⟨o, s _ _ h (by intro _ z; cases z)⟩)
  · exact .inr h
theorem Live.same (l : Live TT C H H' b ta sg ms f tg pm pl ad p) (s : Same H' H2) : Live TT C H H2 b ta sg ms f tg pm pl ad p :=
  ⟨l.nb, l.npm, l.ext.trans (extN_same s), l.tabs.ext s, box_same l.box s, l.told.same s, l.rdr.same s⟩
theorem Live.bx (l : Live TT C H H' b ta sg ms f tg pm pl ad p) (s : Bx b H' H2) : Live TT C H H2 b ta sg ms f tg pm pl ad p :=
  ⟨l.nb, l.npm, ext_bx l.ext l.nb s, tabs_bx l.tabs l.box s, s.2, l.told.bx s l.box l.npm, rdr_bx l.box l.rdr s⟩
theorem Live.more (l : Live TT C H H' b ta sg ms f tg pm pl ad p) (s : LamX.ExtN H' H2) (t : NdefX.TabsN TT H2) : Live TT C H H2 b ta sg ms f tg pm pl ad p :=
  ⟨l.nb, l.npm, l.ext.trans s, t, let ⟨o, e, x, y, z, h⟩ := l.box; ⟨o, s _ _ e (by intro _ q; rw [h] at q; cases q), x, y, z, h⟩, l.told.ext s, l.rdr.ext s⟩
end
section
variable {P : Program} {w : World} {K : PySem.W.Frag} {mg : Str → Option Value} {base : Heap}
theorem nxt {D : Ends} {σ : L2.St} {H : Hp} (h : D.nx σ H) : tNext D σ H := h
theorem dpa_idx {H : Hp} : ∀ {rs : List Addr} {ds : List PyData}, rs.length = ds.length → (∀ (i : Nat) r d, rs[i]? = some r → ds[i]? = some d → Dp K H (.ref r) d) → DpAll K H (rs.map V.ref) ds
  | [], [], _, _ => .nil
  | r :: rs, d :: ds, hl, h => .cons (h 0 r d rfl rfl) (dpa_idx (by simpa using hl) fun i r d e1 e2 => h (i + 1) r d e1 e2)
  | [], _ :: _, hl, _ => by simp at hl
  | _ :: _, [], hl, _ => by simp at hl
def clsD (ms : List (List Nat)) (g : List Nat) : PyData := .tuple ((List.range (UW.firsts g).length).map fun k => .tuple ((clsN ms g k).map fun l => .str (S l)))
theorem dp_cls {H : Hp} {p : Addr} {ps : List Addr} {ms : List (List Nat)} {g : List Nat} (hp : H p = some (.tup (ps.map V.ref))) (hl : ps.length = (UW.firsts g).length) (h : ∀ (k : Nat) a, ps[k]? = some a → H a = some (.tup (txs (clsN ms g k)))) : Dp K H (.ref p) (clsD ms g) :=
  .tup (SqT.of hp) (dpa_idx (by rw [List.length_map, List.length_range]; exact hl) fun i r d e1 e2 => by
    have hi : i < (UW.firsts g).length := by rw [← hl]; exact (List.getElem?_eq_some_iff.mp e1).1
    rw [List.getElem?_map, List.getElem?_range hi] at e2
    cases e2
    exact .tup (SqT.of (h i r e1)) (dp_strs _))
theorem cls_fit {sg : List Nat} {ms : List (List Nat)} {f : List Nat} {tg : List Nat → Nat → List Nat} (hgd : Good sg ms f tg) {g : List Nat} (hg : g.length = ms.length) : Fit 4 600 (clsD ms g) := by
  have h8 := hgd.h8
  refine (Fit.tup (k := 2) (n := 56) (m := 8) (fun d hd => ?_) ?_).mono (by decide) (by decide)
  · obtain ⟨k, _, rfl⟩ := List.mem_map.mp hd
    refine (Fit.tup (k := 0) (n := 6) (m := 8) (fun d hd => ?_) ?_)
    · obtain ⟨l, hl, rfl⟩ := List.mem_map.mp hd
      have hm : l ∈ ms := clsP_sub (g := g) (k := k) (Nat.le_refl _) l hl
      exact Fit.text (fun c hc => by have := (hgd.hnm l hm).2.2.1 c hc; omega) (hgd.hnm l hm).2.1
    · rw [List.length_map]
      have : (clsP ms g ms.length k).length ≤ ms.length := clsP_len
      exact Nat.le_trans this h8
  · rw [List.length_map, List.length_range]
    have := UW.sub_len g (UW.firsts g) (UW.firsts_nodup g) fun y hy => UW.firsts_mem.mp hy
    omega
theorem part_small {sg : List Nat} {tg : List Nat → Nat → List Nat} {ls : List (List Nat)} {x y : List Nat} (hs : Sg sg) : ∀ l, partL sg tg ls x y = some l → l.length ≤ 1000 ∧ ∀ c ∈ l, c < 1114112 := fun l h => by
  have hm := List.mem_of_find?_eq_some h
  obtain ⟨h1, h2⟩ := upto_row hm
  exact ⟨by omega, fun c hc => by have := hs.2.2.2 c (h2 c hc); omega⟩
abbrev s_law : Stmt := top 55
abbrev n_law : List Str := ["script", "base", "box", "told", "made", "turn", "lot", "one", "other"]
theorem sc_law : FnScope n_law ["script"] (fnScope s_law) := fnScope_by (by decide +kernel)
def spLaw (TT : List NdefX.NTab) (K : PySem.W.Frag) : Sp := fun vs H Q _ => ∃ (a : Addr) (ns : List Int), vs = [.ref a] ∧ SqL K H a (ns.map V.int) ∧ ns.length ≤ 63 ∧ NdefX.TabsN TT H ∧ ∀ H', Q (.bl true) H'
theorem ok_law {C CL CN : Addr} {TT : List NdefX.NTab} (T : BT mg) (c_box : Cal P w K mg base 1 "_law_box" (spBox K) []) (c_signs : Cal P w K mg base 3 "_law_signs" spSigns []) (c_drawn : Cal P w K mg base 3 "_law_drawn" spDrawn [])
    (c_made : Cal P w K mg base 7 "_law_made" (spMade C) []) (c_pick : Cal P w K mg base 2 "_law_pick" (spPick K) []) (c_lot : Cal P w K mg base 3 "_law_lot" spLot []) (c_parting : CalX P w K mg base 5 "parting" (spParting K C CL CN TT)) (c_lparted : Cal P w K mg base 2 "_law_parted" (spLParted K) [])
    (c_classes : Cal P w K mg base 4 "classes" (spClasses K C) []) (c_lclasses : Cal P w K mg base 3 "_law_classes" (spLClasses K) []) (c_refused : Cal P w K mg base 7 "_law_refused_right" (spRefused C TT) [])
    {f : Addr} {fd : FuncData} (F : Def K mg "law" s_law f fd) : FnG P w K mg base 8 f fd ["script"] (spLaw TT K) := by
  refine fnG0 F.fn sc_law (fun vs H Q E h => ?_) (fun cd A ou t0 H vs Q E gd hr h => ?_)
  · obtain ⟨a, ns, rfl, _⟩ := h; rfl
  · obtain ⟨a, ns, rfl, ha, hl, hT, kk⟩ := h
    refine ⟨_, (pss_cons (ps_for PassesOwn.never rfl (pi_range1 (by rfl) T.m_range (pa_cons (pe_callB (call_max2 rfl) (by rfl) T.m_max PyProof.Rows.boot_max (pa_cons pe_int (pa_cons (pe_callB (call_min2 rfl) (by rfl) T.m_min PyProof.Rows.boot_min (pa_cons pe_int (pa_cons (pe_callB (lenK K) (by rfl) T.m_len PySem.boot_len (pa_cons (pv 0) pa_nil)) pa_nil))) pa_nil))) pa_nil)) (pg_name (i := 1) sc_law.nd rfl (.inl rfl)) 
        (pss_cons (ps_set (i := 2) sc_law.nd rfl (.inl rfl) (pe_c c_box hr (by first | decide | omega) (by rfl) (pa_cons (pv 0) (pa_cons (pv 1) pa_nil))))
        (pss_cons (ps_set (i := 3) sc_law.nd rfl (.inl rfl) (pe_c c_drawn hr (by first | decide | omega) (by rfl) (pa_cons (pv 2) (pa_cons (pe_c c_signs hr (by first | decide | omega) (by rfl) (pa_cons (pv 2) pa_nil)) (pa_cons pe_int pa_nil)))))
        (pss_cons (ps_set (i := 4) sc_law.nd rfl (.inl rfl) (pe_c c_made hr (by first | decide | omega) (by rfl) (pa_cons (pv 3) pa_nil)))
        (pss_cons (ps_for PassesOwn.never rfl (pi_range1 (by rfl) T.m_range (pa_cons pe_int pa_nil)) (pg_name (i := 5) sc_law.nd rfl (.inl rfl)) 
          (pss_cons (ps_set (i := 6) sc_law.nd rfl (.inl rfl) (pe_c c_lot hr (by first | decide | omega) (by rfl) (pa_cons (pv 2) (pa_cons (pv 3) pa_nil))))
          (pss_cons (ps_for PassesOwn.never rfl (pi_list (pe_dget (hu_of hr) (pv 3) pe_str (fun _ _ => rfl))) (pg_name (i := 7) sc_law.nd rfl (.inl rfl)) 
            (pss_cons (ps_set (i := 8) sc_law.nd rfl (.inl rfl) (pe_c c_pick hr (by first | decide | omega) (by rfl) (pa_cons (pv 2) (pa_cons (pe_dget (hu_of hr) (pv 3) pe_str (fun _ _ => rfl)) pa_nil))))
            (pss_one (ps_if (pt_cmpR op_ne (pe_callB call_reprO (by rfl) T.m_repr PyProof.Rows.boot_repr (pa_cons (pe_cX c_parting takes_none5 hr (by first | decide | omega) (by rfl) (pa_cons (pv 4) (pa_cons (pv 6) (pa_cons (pv 7) (pa_cons (pv 8) pa_nil))))) pa_nil)) (pe_callB call_reprO (by rfl) T.m_repr PyProof.Rows.boot_repr (pa_cons (pe_c c_lparted hr (by first | decide | omega) (by rfl) (pa_cons (pv 3) (pa_cons (pv 6) (pa_cons (pv 7) (pa_cons (pv 8) pa_nil))))) pa_nil)) (nomark _)) 
              (pss_one (ps_ret pe_bl)
              )
             pss_nil)
            )))
          (pss_one (ps_if (pt_cmpR op_ne (pe_callB (call_reprF gd hr K) (by rfl) T.m_repr PyProof.Rows.boot_repr (pa_cons (pe_c c_classes hr (by first | decide | omega) (by rfl) (pa_cons (pv 4) (pa_cons (pe_callTy (tupleK K) (by rfl) T.m_tuple PyProof.Rows.boot_tuple (pa_cons (pv 6) pa_nil)) pa_nil))) pa_nil)) (pe_callB (call_reprF gd hr K) (by rfl) T.m_repr PyProof.Rows.boot_repr (pa_cons (pe_c c_lclasses hr (by first | decide | omega) (by rfl) (pa_cons (pv 3) (pa_cons (pv 6) pa_nil))) pa_nil)) (nomark _)) 
            (pss_one (ps_ret pe_bl)
            )
           pss_nil)
          ))))
        (pss_one (ps_if (pt_not (pt_val (pe_c c_refused hr (by first | decide | omega) (by rfl) (pa_cons (pv 4) (pa_cons (pv 3) pa_nil))))) 
          (pss_one (ps_ret pe_bl)
          )
         pss_nil)
        ))))))
      (pss_one (ps_ret pe_bl)
      )), ?_⟩
    refine ⟨_, rfl, a, _, rfl, .inl ha, _, _, rfl, _, _, rfl, ?_⟩
    rw [List.length_map]
    have hM : 0 ≤ (if (if (ns.length : Int) < 4 then (ns.length : Int) else 4) > 2 then (if (ns.length : Int) < 4 then (ns.length : Int) else 4) else 2) ∧ (if (if (ns.length : Int) < 4 then (ns.length : Int) else 4) > 2 then (if (ns.length : Int) < 4 then (ns.length : Int) else 4) else 2) ≤ 4 := by
      split <;> split <;> omega
    generalize (if (if (ns.length : Int) < 4 then (ns.length : Int) else 4) > 2 then (if (ns.length : Int) < 4 then (ns.length : Int) else 4) else 2) = M at hM ⊢
    refine ⟨_, rfl, by omega, by omega, ?_⟩
    refine for_it (walk_range (lo := 0)) (fun i σ H' => (∃ s1 s2 s3 s4 s5 s6 s7 s8 : Option V, σ = [some (.ref a), s1, s2, s3, s4, s5, s6, s7, s8]) ∧ LamX.ExtN H H' ∧ NdefX.TabsN TT H')
      ⟨⟨_, _, _, _, _, _, _, _, rfl⟩, LamX.ExtN.refl _, hT⟩ (fun _ _ _ _ _ => trivial) ?_ ?_
    · rintro i x σ H1 H1' hi ⟨⟨s1, s2, s3, s4, s5, s6, s7, s8, rfl⟩, e1, hT1⟩ ⟨rfl, rfl⟩
      have hi4 : i < 4 := by omega
      clear hi hM
      refine ⟨_, rfl, _, rfl, a, i, ns, by show [V.ref a, V.int (0 + (i : Int))] = _; rw [Int.zero_add], ext_seq e1 ha, hl, by omega, fun b H2 h2 nb hB => ?_⟩
      refine ⟨_, rfl, _, rfl, b, rfl, hB, fun sg H3 hsg hB3 => ⟨b, sg, 4, rfl, hsg, by decide, by decide, hB3.2, fun ta ms f tg pm pl ad H4 hm hB4 na npm npl nad told4 => ?_⟩⟩
      have hgd := hm.good (by decide)
      have h4 := hm.hms.2.2.1
      have h3 := hgd.hsg.2.2.1
      have hsm : Small ms := fun l hl c hc => by have := (hgd.hnm l hl).2.2.1 c hc; omega
      have npmb : pm ≠ b := box_ne hB3.2 npm
      have hB24 := hB3.trans hB4
      refine ⟨_, rfl, ta, sg, ms, f, tg, pm, pl, ad, rfl, told4, hgd, fun p H5 s5 np hr5 => ?_⟩
      have L5 : Live TT C _ H5 b ta sg ms f tg pm pl ad p := ⟨nb, npmb, (ext_bx (extN_same h2) nb hB24).trans (extN_same s5), (tabs_bx (hT1.ext h2) hB hB24).ext s5, box_same hB24.2 s5, told4.same s5, hr5⟩
      clear hr5 np s5 hB24 told4 na npl nad npm hB4 hB3 hB h2 hT1
      refine ⟨3, rfl, by decide, by decide, ?_⟩
      refine for_it (walk_range (lo := 0) (n := 3)) (fun j σ H' => (∃ s5 s6 s7 s8 : Option V, σ = [some (.ref a), some (.int (0 + (i : Int))), some (.ref b), some (.ref ta), some (.ref p), s5, s6, s7, s8]) ∧ Live TT C H1' H' b ta sg ms f tg pm pl ad p)
        ⟨⟨_, _, _, _, rfl⟩, L5⟩ (fun _ _ _ _ _ => trivial) ?_ ?_
      · rintro j x σ H6 H6' hj ⟨⟨s5, s6, s7, s8, rfl⟩, L6⟩ ⟨rfl, rfl⟩
        refine ⟨_, rfl, _, rfl, b, ta, sg, ms, f, tg, pm, pl, ad, rfl, L6.box, L6.told, npmb, hsm, hgd.hnd, by omega, fun ls lp H7 hls hlsn hB7 nlp hlp => ?_⟩
        have L7 := L6.bx hB7
        have nlb : lp ≠ b := box_ne L6.box nlp
        refine ⟨_, rfl, _, _, rfl, L7.told.marks, pm, rfl, ⟨_, SqL.of L7.told.hpm⟩, for_it (walk_list (K := K) (a := pm) (xs := txs ms)) (fun k σ H' => (∃ s7 s8 : Option V, σ = [some (.ref a), some (.int (0 + (i : Int))), some (.ref b), some (.ref ta), some (.ref p), some (.int (0 + (j : Int))), some (.ref lp), s7, s8]) ∧ Live TT C H1' H' b ta sg ms f tg pm pl ad p ∧ H' lp = some (.lst (txs ls)))
          ⟨⟨_, _, rfl⟩, L7, hlp⟩ (fun _ σ H' _ h => SqL.of h.2.1.told.hpm) ?_ ?_⟩
        · rintro k x σ H8 H8' hk ⟨⟨s7, s8, rfl⟩, L8, hl8⟩ ⟨rfl, ex⟩
          obtain ⟨one, ho, rfl⟩ := txs_get ex
          have hone : one ∈ ms := List.mem_of_getElem? ho
          refine ⟨_, rfl, _, rfl, _, _, rfl, L8.told.marks, b, pm, txs ms, rfl, L8.box, npmb, SqL.of L8.told.hpm, by rw [txs_len]; exact hgd.h1, by rw [txs_len]; omega, fun v H9 hv hB9 => ?_⟩
          unfold txs at hv
          obtain ⟨oth, hoth, rfl⟩ := List.mem_map.mp hv
          have L9 := L8.bx hB9
          have hl9 := hB9.1 _ _ nlb hl8
          have hlY : LotY K H9 (.ref lp) (some (ls.map some)) := lotY_of (bb := true) (SqL.of hl9) (by have := UW.sub_len ms ls hlsn hls; omega) hlsn
          refine ⟨_, rfl, _, rfl, _, rfl, _, rfl, p, .ref lp, _, _, sg, ms, f, tg, some (ls.map some), rfl, L9.rdr, hgd, hlY, L9.tabs, .inr ⟨one, oth, ls, ⟨rfl, hls, hlsn⟩, rfl, rfl, .inr (.inr ⟨hone, hoth, fun H10 e10 hT10 => ?_⟩)⟩⟩
          rw [part_eq hgd h4 hone hoth]
          have L10 := L9.more e10 hT10
          have hl10 := ext_lst e10 hl9
          refine ⟨partL sg tg ls one oth, by cases partL sg tg ls one oth <;> rfl, part_small hgd.hsg, ?_⟩
          refine ⟨_, rfl, _, rfl, _, rfl, _, rfl, ta, lp, sg, ms, f, tg, pm, pl, ad, ls, one, oth, rfl, L10.told, hgd, SqL.of hl10, hone, hoth, fun H11 s11 => ?_⟩
          refine ⟨partL sg tg ls one oth, by cases partL sg tg ls one oth <;> rfl, part_small hgd.hsg, ?_⟩
          refine ⟨rfl, _, rfl, iteN (by simp) ?_⟩
          exact ⟨⟨_, _, rfl⟩, L10.same s11, s11 _ _ hl10⟩
        · rintro σ H8 ⟨⟨s7, s8, rfl⟩, L8, hl8⟩
          refine ⟨_, rfl, _, rfl, lp, txs ls, rfl, .inl ⟨SqL.of hl8, fun tl htl => ?_⟩⟩
          have s9' : Same H8 (upd H8 tl (.tup (txs ls))) := sm_new htl
          have L9 := L8.same s9'
          have hl9 := s9' _ _ hl8
          refine ⟨p, tl, false, sg, ms, f, tg, ls, rfl, L9.rdr, hgd, SqT.of upd_same, hls, hlsn, fun q ps g H10 s10 hq hg hpl hpc => ?_⟩
          have L10 := L9.same s10
          have hl10 := s10 _ _ hl9
          refine ⟨q, clsD ms g, 4, 600, rfl, dp_cls hq hpl hpc, cls_fit hgd hg.1, by decide, by decide, ?_⟩
          refine ⟨_, rfl, _, rfl, ta, lp, sg, ms, f, tg, pm, pl, ad, ls, g, rfl, L10.told, hgd, h4, hsm, SqL.of hl10, hg, fun q2 ps2 H11 s11 hq2 hpl2 hpc2 => ?_⟩
          refine ⟨q2, clsD ms g, 4, 600, rfl, dp_cls hq2 hpl2 hpc2, cls_fit hgd hg.1, by decide, by decide, ?_⟩
          refine ⟨rfl, _, rfl, iteN (by simp) ?_⟩
          exact ⟨⟨_, _, _, _, rfl⟩, L10.same s11⟩
      · rintro σ H6 ⟨⟨s5, s6, s7, s8, rfl⟩, L6⟩
        refine ⟨_, rfl, _, rfl, p, ta, sg, ms, f, tg, pm, pl, ad, rfl, L6.rdr, hgd, L6.told, hm.hms.2.2.2, L6.tabs, fun H7 e7 hT7 => ?_⟩
        refine ⟨true, rfl, iteN rfl ?_⟩
        have L7 := L6.more e7 hT7
        exact ⟨⟨_, _, _, _, _, _, _, _, rfl⟩, e1.trans L7.ext, L7.tabs⟩
    · rintro σ H1 ⟨⟨s1, s2, s3, s4, s5, s6, s7, s8, rfl⟩, e1, hT1⟩
      exact kk H1
end
end Toy
set_option maxHeartbeats 4000000
namespace LX
open PySem PySem.Spec PyProof.Rows L2 C8 SX
abbrev NoCode : Obj := { cls := .none, data := .fields #[] }
abbrev ListO (vs : List Value) : Obj := { cls := .type "list", data := .seq vs.toArray }
structure Tabbing (K : PySem.W.Frag) (mg : Str → Option Value) (h : Heap) (tt : List (Addr × Addr)) : Prop where
  empty : ∀ p ∈ tt, h.get? p.2 = some NoCode
  loose : ∀ p ∈ tt, K.lookup p.2 = none
  code : ∀ p ∈ tt, PySem.W.CodeHd h p.1 p.2
  bm : ∃ (m : Addr) (o : Obj), mg "__builtins__" = some (.ref m) ∧ m ≠ builtinsNs ∧ h.get? m = some o ∧ o.cls = .type "module" ∧ o.dict = some builtinsNs ∧ o.data = .plain
section
variable {P : Program} {w : World} {K : PySem.W.Frag} {mg mb : Str → Option Value} {k : Nat} {fa a : Addr} {fd : FuncData} {x : Str} {sp : Sp} {s : Shared} {vs : List Value} {ns : List Int} {tt : List (Addr × Addr)}
theorem lawGT_at {H : Hp} (tb : Tabbing K mg s.heap tt) (KX : K.In s.heap) (names : s.heap.Ns mainGlobals mg) (bnames : s.heap.Ns builtinsNs mb) (boot : ∀ x : Str, x ≠ "__name__" → mb x = bootBuiltins x) (lim : s.heap.NoLimit) (gens : s.gens = #[])
    (script : s.heap.get? a = some (ListO vs)) (room : Room k callerA) (F : ∀ base : Heap, K.In base → base.Ns mainGlobals mg → (∀ p ∈ tt, LamX.TabB base mg p.1 p.2) → FnG P w K mg base k fa fd [x] sp)
    (binds : ∀ (s : Shared) (u : Value), BindsTo s fd ⟨[u], []⟩ [(x, u)]) (want : sp [.ref a] H (fun v _ => v = .bl true) C8.E0) (ok : HOk P w H s.heap) (tabs : ∀ p ∈ tt, H p.2 = some (.tbl #[]))
    (here : ∀ b u, H b = some u → (b = a ∧ ∃ o xs, u = .frz o (.lst xs)) ∨ ∃ p ∈ tt, p.2 = b) (notK : H a ≠ none → K.lookup a = none) :
    codeAny (model P w) callerA (.call (.ref fa) ⟨[.ref a], []⟩) (fun r s' => Done s s' r) s := by
  have off_script : ∀ p ∈ tt, p.2 ≠ a := fun p hp e => by
    have q := tb.empty p hp
    rw [e, script] at q
    have q2 : Data.seq vs.toArray _ = Data.fields #[] := congrArg Obj.data (Option.some.inj q)
    cases q2
  have clear_of : ∀ {b : Addr} {o : Obj}, s.heap.get? b = some o → o ≠ ListO vs → o ≠ NoCode → H b = none := fun {b o} e n1 n2 => by
    cases q : H b with
    | none => rfl
    | some u =>
      rcases here b u q with ⟨rfl, _⟩ | ⟨p, hp, rfl⟩
      · rw [script] at e; exact absurd (Option.some.inj e).symm n1
      · rw [tb.empty p hp] at e; exact absurd (Option.some.inj e).symm n2
  have see : ∀ {b : Addr} {o : Obj}, s.heap.get? b = some o → o ≠ ListO vs → o ≠ NoCode → (hidT s.heap H).get? b = some o := fun e n1 n2 => hidT_get e (clear_of e n1 n2)
  have names_see : ∀ {b : Addr} {m : Str → Option Value}, s.heap.Ns b m → (hidT s.heap H).Ns b m := fun {b m} ⟨o, es, ep, e, d, r⟩ =>
    ⟨o, es, ep, see e (fun z => by rw [z] at d; cases d) (fun z => by rw [z] at d; cases d), d, r⟩
  have KH : K.In (hidT s.heap H) := fun b o e => hidT_get (KX b o e) (by
    cases q : H b with
    | none => rfl
    | some u =>
      rcases here b u q with ⟨rfl, _⟩ | ⟨p, hp, rfl⟩
      · rw [notK (by rw [q]; simp)] at e; cases e
      · rw [tb.loose p hp] at e; cases e)
  have md : Mod K mg (hidT s.heap H) := by
    obtain ⟨mc, c1, c2⟩ := lim
    exact ⟨KH, names_see names, ⟨mb, names_see bnames, boot⟩, mc, names_see c1, c2⟩
  have based : ∀ p ∈ tt, LamX.TabB (hidT s.heap H) mg p.1 p.2 := fun p hp => by
    have none_at : ∀ {o : Obj}, s.heap.get? p.2 = some o → o = NoCode := fun e => by rw [tb.empty p hp] at e; exact (Option.some.inj e).symm
    constructor
    · obtain ⟨o, us, fl, t1, fg, t2, bf, tx, t3, e, cls, dat, at11, rest⟩ := tb.code p hp
      exact ⟨o, us, fl, t1, fg, t2, bf, tx, t3, see e (fun z => by rw [z] at dat; cases dat) (fun z => by rw [z] at dat; cases dat; simp at at11), cls, dat, at11, rest⟩
    · obtain ⟨m, o, named, apart, e, cls, dct, dat⟩ := tb.bm
      refine ⟨m, o, named, apart, fun z => ?_, fun z => ?_, see e (fun z => by rw [z] at dat; cases dat) (fun z => by rw [z] at dat; cases dat), cls, dct, dat⟩
      · obtain ⟨o2, es, ep, e2, d2, _⟩ := names
        rw [z, e2] at e
        cases e
        rw [d2] at dat
        cases dat
      · rw [z] at e
        rw [none_at e] at dat
        cases dat
    · intro z
      obtain ⟨o2, es, ep, e2, d2, _⟩ := names
      rw [z] at e2
      rw [none_at e2] at d2
      cases d2
  have e0 : Env0 P w K mg (hidT s.heap H) callerA [] s H := ⟨rfl, md, fun _ _ e => of_hidT e, Nat.le_of_eq (hidT_size _ _), trivial, fun _ hm => absurd hm (List.not_mem_nil), ok, .of_eq gens⟩
  refine codeAny_mono ((F _ KH (names_see names) based).goes callerA [] s H ⟨[.ref a], []⟩ [.ref a] [.ref a] _ _ rfl room e0 (binds s (.ref a)) (.cons rfl .nil) want) fun r t got => ?_
  match r, got with
  | .ok (.ret u), got =>
    obtain ⟨v, H2, os, bare, un, ok2, rel, is_true⟩ := got
    obtain rfl : v = V.bl true := is_true
    obtain rfl : u = Value.bool true := rel
    have stays : ∀ b o, (∀ p ∈ tt, p.2 ≠ b) → s.heap.get? b = some o → t.heap.get? b = some o := fun b o away e => by
      cases q : H b with
      | none => exact un.keep b o e q (fun z => absurd z List.not_mem_nil) (by simp)
      | some u =>
        rcases here b u q with ⟨_, ob, xs, rfl⟩ | ⟨p, hp, z⟩
        · obtain ⟨e1, _⟩ := ok b _ q
          obtain ⟨e2, _⟩ := ok2 b _ (un.frzs b ob _ q)
          rw [e] at e1
          cases e1
          exact e2
        · exact absurd z (away p hp)
    have more : ∀ p ∈ tt, ∃ us : Array Value, t.heap.get? p.2 = some { cls := .none, data := .fields us } := fun p hp => by
      obtain ⟨us, z⟩ := un.tbls p.2 #[] (tabs p hp)
      exact ⟨_, ok2 p.2 _ z⟩
    refine ⟨rfl, ⟨fun b o e => ?_, fun b o e => ?_⟩, os, bare⟩
    · by_cases q : ∃ p ∈ tt, p.2 = b
      · obtain ⟨p, hp, rfl⟩ := q
        obtain ⟨us, eu⟩ := more p hp
        have e1 := tb.empty p hp
        rw [e] at e1
        cases e1
        exact .inr (.inl ⟨((tb.code p hp).tab (tb.empty p hp)).isCodeTable, rfl, #[], us, rfl, by rw [Array.empty_append]; exact eu⟩)
      · exact .inl (stays b o (fun p hp z => q ⟨p, hp, z⟩) e)
    · by_cases q : ∃ p ∈ tt, p.2 = b
      · obtain ⟨p, hp, rfl⟩ := q
        obtain ⟨us, eu⟩ := more p hp
        exact ⟨_, eu⟩
      · exact ⟨o, stays b o (fun p hp z => q ⟨p, hp, z⟩) e⟩
open Classical in
theorem lawGT_call (tb : Tabbing K mg s.heap tt) (KX : K.In s.heap) (names : s.heap.Ns mainGlobals mg) (bnames : s.heap.Ns builtinsNs mb) (boot : ∀ x : Str, x ≠ "__name__" → mb x = bootBuiltins x) (lim : s.heap.NoLimit) (gens : s.gens = #[])
    (script : s.heap.get? a = some (ListO vs)) (nums : IntsAre vs ns) (few : ns.length ≤ sizeLine) (room : Room k callerA) (F : ∀ base : Heap, K.In base → base.Ns mainGlobals mg → (∀ p ∈ tt, LamX.TabB base mg p.1 p.2) → FnG P w K mg base k fa fd [x] sp)
    (binds : ∀ (s : Shared) (u : Value), BindsTo s fd ⟨[u], []⟩ [(x, u)]) (want : ∀ H : Hp, (∀ p ∈ tt, H p.2 = some (.tbl #[])) → SqL K H a (ns.map V.int) → sp [.ref a] H (fun v _ => v = .bl true) C8.E0) :
    codeAny (model P w) callerA (.call (.ref fa) ⟨[.ref a], []⟩) (fun r s' => Done s s' r) s := by
  have rel := vals_ints nums
  have isT : ∀ b, (∃ p ∈ tt, p.2 = b) → s.heap.get? b = some NoCode := fun b ⟨p, hp, e⟩ => e ▸ tb.empty p hp
  let T : Hp := fun b => if ∃ p ∈ tt, p.2 = b then some (.tbl #[]) else none
  have T_in : ∀ {b u}, T b = some u → (∃ p ∈ tt, p.2 = b) ∧ u = .tbl #[] := fun {b u} z => by
    by_cases q : ∃ p ∈ tt, p.2 = b
    · exact ⟨q, (Option.some.inj ((if_pos q).symm.trans z)).symm⟩
    · cases (if_neg q).symm.trans z
  have T_at : ∀ p ∈ tt, T p.2 = some (.tbl #[]) := fun p hp => if_pos ⟨p, hp, rfl⟩
  have a_off : ¬ ∃ p ∈ tt, p.2 = a := fun q => by
    have z := isT a q
    rw [script] at z
    have z2 : Data.seq vs.toArray _ = Data.fields #[] := congrArg Obj.data (Option.some.inj z)
    cases z2
  have T_ok : HOk P w T s.heap := fun b u z => by
    obtain ⟨q, rfl⟩ := T_in z
    exact isT b q
  cases own : K.lookup a with
  | some o =>
    have e := KX a o own
    rw [script] at e
    cases e
    exact lawGT_at tb KX names bnames boot lim gens script room F binds (want T T_at (.inr ⟨_, vs.toArray, _, own, rfl, rfl, rfl, by rw [List.size_toArray, nums.length]; exact few, by simpa using rel⟩)) T_ok T_at (fun b u z => .inr (T_in z).1)
      fun z => absurd (if_neg a_off : T a = none) z
  | none =>
    let one : HO := .frz (ListO vs) (.lst (ns.map V.int))
    let H : Hp := fun b => if b = a then some one else T b
    have at_a : H a = some one := if_pos rfl
    have off : ∀ {b}, b ≠ a → H b = T b := fun n => if_neg n
    refine lawGT_at tb KX names bnames boot lim gens script room F binds (want H (fun p hp => (off fun z => a_off ⟨p, hp, z⟩).trans (T_at p hp)) (.inl (.inr ⟨_, at_a⟩))) (fun b u z => ?_) (fun p hp => (off fun z => a_off ⟨p, hp, z⟩).trans (T_at p hp)) (fun b u z => ?_) fun _ => own
    · by_cases e : b = a
      · subst e
        rw [at_a] at z
        cases z
        exact ⟨script, by rw [List.length_map]; exact few, vs, _, rel, script⟩
      · rw [off e] at z
        obtain ⟨q, rfl⟩ := T_in z
        exact isT b q
    · by_cases e : b = a
      · subst e
        rw [at_a] at z
        exact .inl ⟨rfl, _, _, (Option.some.inj z).symm⟩
      · rw [off e] at z
        exact .inr (T_in z).1
end
theorem walkGT {l : PySem.W.OpenLaw} {n k : Nat} {q : Program} {loose : List Str} {XP : (Str → Option Value) → Heap → Prop} {YP : World → Heap → Prop} {d : DefRec} {K : Params → PySem.W.Frag} {sp : PySem.W.Frag → List (Addr × Addr) → Sp} {x : Str} (hn : l.most = some n) (hn2 : n ≤ sizeLine)
    (hdf : d.params.defaults = []) (room : Room k callerA) (hY : ∀ (w : World) (h : Heap), YP w h → (K w.params).In h)
    (F : ∀ (w : World) (mg : Str → Option Value) (fa : Addr) (h : Heap), (K w.params).In h → h.Ns mainGlobals mg → mg d.name = some (.ref fa) →
      ∃ (fd : FuncData) (tt : List (Addr × Addr)), (∀ p ∈ tt, (∃ (nm : Str) (e : DefRec), PySem.W.tabIn (K w.params) nm = some p ∧ (recsOf q).find? (fun e => e.name == nm) = some e) ∧ (K w.params).lookup p.2 = none) ∧
        (∀ (s : Shared) (u : Value), BindsTo s fd ⟨[u], []⟩ [(x, u)]) ∧ ∀ base : Heap, (K w.params).In base → base.Ns mainGlobals mg → (∀ p ∈ tt, LamX.TabB base mg p.1 p.2) → FnG l.prog w (K w.params) mg base k fa fd [x] (sp (K w.params) tt))
    (want : ∀ (K : PySem.W.Frag) (tt : List (Addr × Addr)) (H : Hp) (a : Addr) (ns : List Int), ns.length ≤ n → (∀ p ∈ tt, H p.2 = some (.tbl #[])) → SqL K H a (ns.map V.int) → sp K tt [.ref a] H (fun v _ => v = .bl true) C8.E0) : PySem.W.WalkO q loose XP YP l.row.toRowW d [] (fun f vs => PySem.call f vs) := by
  refine Att.attach_call hn hdf ?_
  intro w s0 s1 mg mb fa o pm cd doc a vs ns G Y _ _ _ named list_ nums few gens
  have KX := hY w _ Y
  obtain ⟨fd, tt, ht, bd, F1⟩ := F w mg fa _ KX G.T.g named
  have tb : Tabbing (K w.params) mg s1.heap tt := ⟨fun p hp => let ⟨⟨nm, e, t1, r1⟩, _⟩ := ht p hp; (PySem.W.tab_of G.T KX r1 t1).2, fun p hp => (ht p hp).2, fun p hp => let ⟨⟨nm, e, t1, r1⟩, _⟩ := ht p hp; (PySem.W.tab_of G.T KX r1 t1).1, G.T.bmain⟩
  exact lawGT_call tb KX G.T.g G.T.b G.T.builtins G.T.nolimit gens list_ nums (Nat.le_trans few hn2) room F1 bd fun H ht hs => want _ _ H a ns few ht hs
end LX
set_option maxHeartbeats 8000000
namespace Toy
open PySem L2 C8 SX LX
theorem no_names {K : PySem.W.Frag} {N : Addr} {od : Option Addr} {n : Nat} {sl : Array (Option Value)} {u0 u1 u2 u3 u4 u5 u6 u7 u8 u9 : Tok}
    (h : K.lookup N = some ⟨.type "tuple", od, .seq #[.str (Str.ofString "back") u0, .str (Str.ofString "is") u1, .str (Str.ofString "not") u2, .str (Str.ofString "and") u3, .str (Str.ofString "or") u4, .str (Str.ofString "if") u5, .str (Str.ofString "then") u6, .str (Str.ofString "for") u7, .str (Str.ofString "all") u8, .str (Str.ofString "some") u9] n, sl⟩) (H : Hp) : SqT K H N (txs no10) := by
  refine .inr ⟨_, _, _, h, rfl, rfl, (by show 10 ≤ sizeLine; decide), ?_⟩
  have e0 : (Str.ofString "back") = S [98, 97, 99, 107] := by decide +kernel
  have e1 : (Str.ofString "is") = S [105, 115] := by decide +kernel
  have e2 : (Str.ofString "not") = S [110, 111, 116] := by decide +kernel
  have e3 : (Str.ofString "and") = S [97, 110, 100] := by decide +kernel
  have e4 : (Str.ofString "or") = S [111, 114] := by decide +kernel
  have e5 : (Str.ofString "if") = S [105, 102] := by decide +kernel
  have e6 : (Str.ofString "then") = S [116, 104, 101, 110] := by decide +kernel
  have e7 : (Str.ofString "for") = S [102, 111, 114] := by decide +kernel
  have e8 : (Str.ofString "all") = S [97, 108, 108] := by decide +kernel
  have e9 : (Str.ofString "some") = S [115, 111, 109, 101] := by decide +kernel
  rw [e0, e1, e2, e3, e4, e5, e6, e7, e8, e9]
  exact .cons ⟨_, rfl⟩ (.cons ⟨_, rfl⟩ (.cons ⟨_, rfl⟩ (.cons ⟨_, rfl⟩ (.cons ⟨_, rfl⟩ (.cons ⟨_, rfl⟩ (.cons ⟨_, rfl⟩ (.cons ⟨_, rfl⟩ (.cons ⟨_, rfl⟩ (.cons ⟨_, rfl⟩ .nil)))))))))
def ttOf (tt : List (Addr × Addr)) : List NdefX.NTab := (tt.zip [("_pair_lead.<locals>.lead" : Str), ("_parting_row.<locals>.is_parted" : Str)]).map fun p => (p.1.2, fun _ _ => p.2)
theorem all_mk {l : PySem.W.OpenLaw} {qp : Program} {w : World} {K : PySem.W.Frag} {h : Heap} {mg : Str → Option Value} {fa : Addr} {f_take f_pick f_mixed f_signs f_drawn f_box f_isseq f_isrow f_isletters f_issigns f_isname f_ismarks f_istargets f_issteps f_m_num f_table f_cols f_init f_ismark f_xnm f_numbered f_alike f_until f_least f_islot f_chlot f_flags f_parting f_classes f_groups f_pairlead f_partrow f_made f_led f_rows f_lot f_lparted f_lclasses f_heard f_refused f_law C_Reader C_InvalidLot C_NoMark C_RowError : Addr} (X : K.In h) (G : h.Ns mainGlobals mg) (hfa : mg "law" = some (.ref fa))
    {od_take an_take : Option Addr} {sl_take : Array (Option Value)} {oc_take kV_take dc_take pm_take cd_take ct_take : Value}
    {od_pick an_pick : Option Addr} {sl_pick : Array (Option Value)} {oc_pick kV_pick dc_pick pm_pick cd_pick ct_pick : Value}
    {od_mixed an_mixed : Option Addr} {sl_mixed : Array (Option Value)} {oc_mixed kV_mixed dc_mixed pm_mixed cd_mixed ct_mixed : Value}
    {od_signs an_signs : Option Addr} {sl_signs : Array (Option Value)} {oc_signs kV_signs dc_signs pm_signs cd_signs ct_signs : Value}
    {od_drawn an_drawn : Option Addr} {sl_drawn : Array (Option Value)} {oc_drawn kV_drawn dc_drawn pm_drawn cd_drawn ct_drawn : Value}
    {od_box an_box : Option Addr} {sl_box : Array (Option Value)} {oc_box kV_box dc_box pm_box cd_box ct_box : Value}
    {od_isseq an_isseq : Option Addr} {sl_isseq : Array (Option Value)} {oc_isseq kV_isseq dc_isseq pm_isseq cd_isseq ct_isseq : Value}
    {od_isrow an_isrow : Option Addr} {sl_isrow : Array (Option Value)} {oc_isrow kV_isrow dc_isrow pm_isrow cd_isrow ct_isrow : Value}
    {od_isletters an_isletters : Option Addr} {sl_isletters : Array (Option Value)} {oc_isletters kV_isletters dc_isletters pm_isletters cd_isletters ct_isletters : Value}
    {od_issigns an_issigns : Option Addr} {sl_issigns : Array (Option Value)} {oc_issigns kV_issigns dc_issigns pm_issigns cd_issigns ct_issigns : Value}
    {od_isname an_isname : Option Addr} {sl_isname : Array (Option Value)} {oc_isname kV_isname dc_isname pm_isname cd_isname ct_isname : Value}
    {od_ismarks an_ismarks : Option Addr} {sl_ismarks : Array (Option Value)} {oc_ismarks kV_ismarks dc_ismarks pm_ismarks cd_ismarks ct_ismarks : Value}
    {od_istargets an_istargets : Option Addr} {sl_istargets : Array (Option Value)} {oc_istargets kV_istargets dc_istargets pm_istargets cd_istargets ct_istargets : Value}
    {od_issteps an_issteps : Option Addr} {sl_issteps : Array (Option Value)} {oc_issteps kV_issteps dc_issteps pm_issteps cd_issteps ct_issteps : Value}
    {od_m_num an_m_num : Option Addr} {sl_m_num : Array (Option Value)} {oc_m_num kV_m_num dc_m_num pm_m_num cd_m_num ct_m_num : Value}
    {od_table an_table : Option Addr} {sl_table : Array (Option Value)} {oc_table kV_table dc_table pm_table cd_table ct_table : Value}
    {od_cols an_cols : Option Addr} {sl_cols : Array (Option Value)} {oc_cols kV_cols dc_cols pm_cols cd_cols ct_cols : Value}
    {od_init an_init : Option Addr} {sl_init : Array (Option Value)} {oc_init kV_init dc_init pm_init cd_init ct_init : Value}
    {od_ismark an_ismark : Option Addr} {sl_ismark : Array (Option Value)} {oc_ismark kV_ismark dc_ismark pm_ismark cd_ismark ct_ismark : Value}
    {od_xnm an_xnm : Option Addr} {sl_xnm : Array (Option Value)} {oc_xnm kV_xnm dc_xnm pm_xnm cd_xnm ct_xnm : Value}
    {od_numbered an_numbered : Option Addr} {sl_numbered : Array (Option Value)} {oc_numbered kV_numbered dc_numbered pm_numbered cd_numbered ct_numbered : Value}
    {od_alike an_alike : Option Addr} {sl_alike : Array (Option Value)} {oc_alike kV_alike dc_alike pm_alike cd_alike ct_alike : Value}
    {od_until an_until : Option Addr} {sl_until : Array (Option Value)} {oc_until kV_until dc_until pm_until cd_until ct_until : Value}
    {od_least an_least : Option Addr} {sl_least : Array (Option Value)} {oc_least kV_least dc_least pm_least cd_least ct_least : Value}
    {od_islot an_islot : Option Addr} {sl_islot : Array (Option Value)} {oc_islot kV_islot dc_islot pm_islot cd_islot ct_islot : Value}
    {od_chlot an_chlot : Option Addr} {sl_chlot : Array (Option Value)} {oc_chlot kV_chlot dc_chlot pm_chlot cd_chlot ct_chlot : Value}
    {od_flags an_flags : Option Addr} {sl_flags : Array (Option Value)} {oc_flags kV_flags dc_flags pm_flags cd_flags ct_flags : Value}
    {od_parting an_parting : Option Addr} {sl_parting : Array (Option Value)} {oc_parting kV_parting dc_parting pm_parting cd_parting ct_parting : Value}
    {od_classes an_classes : Option Addr} {sl_classes : Array (Option Value)} {oc_classes kV_classes dc_classes pm_classes cd_classes ct_classes : Value}
    {od_groups an_groups : Option Addr} {sl_groups : Array (Option Value)} {oc_groups kV_groups dc_groups pm_groups cd_groups ct_groups : Value}
    {od_pairlead an_pairlead : Option Addr} {sl_pairlead : Array (Option Value)} {oc_pairlead kV_pairlead dc_pairlead pm_pairlead ct_pairlead : Value}
    {od_partrow an_partrow : Option Addr} {sl_partrow : Array (Option Value)} {oc_partrow kV_partrow dc_partrow pm_partrow ct_partrow : Value}
    {od_made an_made : Option Addr} {sl_made : Array (Option Value)} {oc_made kV_made dc_made pm_made cd_made ct_made : Value}
    {od_led an_led : Option Addr} {sl_led : Array (Option Value)} {oc_led kV_led dc_led pm_led cd_led ct_led : Value}
    {od_rows an_rows : Option Addr} {sl_rows : Array (Option Value)} {oc_rows kV_rows dc_rows pm_rows cd_rows ct_rows : Value}
    {od_lot an_lot : Option Addr} {sl_lot : Array (Option Value)} {oc_lot kV_lot dc_lot pm_lot cd_lot ct_lot : Value}
    {od_lparted an_lparted : Option Addr} {sl_lparted : Array (Option Value)} {oc_lparted kV_lparted dc_lparted pm_lparted cd_lparted ct_lparted : Value}
    {od_lclasses an_lclasses : Option Addr} {sl_lclasses : Array (Option Value)} {oc_lclasses kV_lclasses dc_lclasses pm_lclasses cd_lclasses ct_lclasses : Value}
    {od_heard an_heard : Option Addr} {sl_heard : Array (Option Value)} {oc_heard kV_heard dc_heard pm_heard cd_heard ct_heard : Value}
    {od_refused an_refused : Option Addr} {sl_refused : Array (Option Value)} {oc_refused kV_refused dc_refused pm_refused cd_refused ct_refused : Value}
    {od_law an_law : Option Addr} {sl_law : Array (Option Value)} {oc_law kV_law dc_law pm_law cd_law ct_law : Value}
    {N_nn : Addr} {od_nn : Option Addr} {n_nn : Nat} {sl_nn : Array (Option Value)} {u0_nn u1_nn u2_nn u3_nn u4_nn u5_nn u6_nn u7_nn u8_nn u9_nn : Tok}
    (tg_nn : PySem.W.nsIn K mainGlobals "_NO_NAMES" = some (some (.ref N_nn)))
    (tl_nn : K.lookup N_nn = some ⟨.type "tuple", od_nn, .seq #[.str (Str.ofString "back") u0_nn, .str (Str.ofString "is") u1_nn, .str (Str.ofString "not") u2_nn, .str (Str.ofString "and") u3_nn, .str (Str.ofString "or") u4_nn, .str (Str.ofString "if") u5_nn, .str (Str.ofString "then") u6_nn, .str (Str.ofString "for") u7_nn, .str (Str.ofString "all") u8_nn, .str (Str.ofString "some") u9_nn] n_nn, sl_nn⟩)
    {cc_pairlead PP_pairlead : Addr} {oe_pairlead : Option Addr} {oc2_pairlead : Value} {vs_pairlead : Array Value} {sl2_pairlead : Array (Option Value)}
    (tr_pairlead : ∃ e, (PyProof.Rows.recsOf qp).find? (fun e => e.name == ("_pair_lead" : Str)) = some e)
    {cc_partrow PP_partrow : Addr} {oe_partrow : Option Addr} {oc2_partrow : Value} {vs_partrow : Array Value} {sl2_partrow : Array (Option Value)}
    (tr_partrow : ∃ e, (PyProof.Rows.recsOf qp).find? (fun e => e.name == ("_parting_row" : Str)) = some e)
    {tk_az : Tok}
    (q_az : PySem.W.nsIn K mainGlobals "_LETTERS" = some (some (.str (S az) tk_az)))
    (g_Reader : PySem.W.nsIn K mainGlobals "Reader" = some (some (.ref C_Reader)))
    (pg_Reader : PySem.W.plainGet K C_Reader Str.empty = true)
    (hd_Reader : PySem.W.hasDictIn K C_Reader = true)
    (po_Reader : PySem.W.plainOver K C_Reader = true)
    (sa_Reader : PySem.W.findIn K (.ref C_Reader) "__setattr__" = some (some (.builtin "object.__setattr__")))
    (kc_Reader : PySem.W.keepIn K (.ref C_Reader) = true)
    (n_Reader_signs : PySem.W.findIn K (.ref C_Reader) "signs" = some none)
    (n_Reader_marks : PySem.W.findIn K (.ref C_Reader) "marks" = some none)
    (n_Reader_first : PySem.W.findIn K (.ref C_Reader) "first" = some none)
    (n_Reader_steps : PySem.W.findIn K (.ref C_Reader) "steps" = some none)
    (n_Reader__numbers : PySem.W.findIn K (.ref C_Reader) "_numbers" = some none)
    (n_Reader__leads : PySem.W.findIn K (.ref C_Reader) "_leads" = some none)
    (n_Reader__columns : PySem.W.findIn K (.ref C_Reader) "_columns" = some none)
    (mk_Reader : PySem.W.makesIn K C_Reader = true)
    (ha_Reader : PySem.W.findIn K (.ref C_Reader) "__class__" = some (some (.builtin "object.__class__")))
    (hn_Reader : PySem.W.specialIn K (.builtin "object.__class__") "__get__" = some (some (.builtin "getset_descriptor.__get__")))
    (tk_Reader : PySem.W.takesIn K (.builtin "object.__class__") = some true)
    (hm_Reader : PySem.W.mroIn K C_Reader (.type "object") = some true)
    (xg_InvalidLot : PySem.W.nsIn K mainGlobals "InvalidLot" = some (some (.ref C_InvalidLot)))
    (xq_InvalidLot : PySem.W.excInitIn K C_InvalidLot [.type "ValueError", .type "Exception", .type "BaseException", .type "object"] "ValueError.__new__" = true)
    (xd_InvalidLot : PySem.W.hasDictIn K C_InvalidLot = true)
    (xs_InvalidLot : PySem.W.findIn K (.ref C_InvalidLot) "__setattr__" = some (some (.builtin "object.__setattr__")))
    (xa_InvalidLot : PySem.W.findIn K (.ref C_InvalidLot) "__getattribute__" = some (some (.builtin "BaseException.__getattribute__")))
    (xn_InvalidLot : PySem.W.findIn K (.ref C_InvalidLot) "__getattr__" = some none)
    (xb_InvalidLot : PySem.W.subIn K (.ref C_InvalidLot) (.type "BaseException") = some true)
    (xt_InvalidLot : PySem.W.typeIn K (.ref C_InvalidLot) = some (.type "type"))
    (xk_InvalidLot : PySem.W.keepIn K (.ref C_InvalidLot) = true)
    (xc_InvalidLot : PySem.W.findIn K (.ref C_InvalidLot) "__class__" = some (some (.builtin "object.__class__")))
    (xm_InvalidLot : PySem.W.mroIn K C_InvalidLot (.type "object") = some true)
    (xu_InvalidLot : PySem.W.subIn K (.ref C_InvalidLot) (.ref C_InvalidLot) = some true)
    (xg_NoMark : PySem.W.nsIn K mainGlobals "NoMark" = some (some (.ref C_NoMark)))
    (xq_NoMark : PySem.W.excInitIn K C_NoMark [.type "KeyError", .type "LookupError", .type "Exception", .type "BaseException", .type "object"] "LookupError.__new__" = true)
    (xd_NoMark : PySem.W.hasDictIn K C_NoMark = true)
    (xs_NoMark : PySem.W.findIn K (.ref C_NoMark) "__setattr__" = some (some (.builtin "object.__setattr__")))
    (xa_NoMark : PySem.W.findIn K (.ref C_NoMark) "__getattribute__" = some (some (.builtin "BaseException.__getattribute__")))
    (xn_NoMark : PySem.W.findIn K (.ref C_NoMark) "__getattr__" = some none)
    (xb_NoMark : PySem.W.subIn K (.ref C_NoMark) (.type "BaseException") = some true)
    (xt_NoMark : PySem.W.typeIn K (.ref C_NoMark) = some (.type "type"))
    (xk_NoMark : PySem.W.keepIn K (.ref C_NoMark) = true)
    (xc_NoMark : PySem.W.findIn K (.ref C_NoMark) "__class__" = some (some (.builtin "object.__class__")))
    (xm_NoMark : PySem.W.mroIn K C_NoMark (.type "object") = some true)
    (xu_NoMark : PySem.W.subIn K (.ref C_NoMark) (.ref C_NoMark) = some true)
    (xe_InvalidLot : PySem.W.excIn K C_InvalidLot [.type "ValueError", .type "Exception", .type "BaseException", .type "object"] "ValueError.__new__" = true)
    (xg_RowError : PySem.W.nsIn K mainGlobals "RowError" = some (some (.ref C_RowError)))
    (xf_NoMark : PySem.W.findIn K (.ref C_NoMark) "mark" = some none)
    (xu_nl : PySem.W.subIn K (.ref C_NoMark) (.ref C_InvalidLot) = some false)
    (xk_lr : PySem.W.kitOne K (.ref C_InvalidLot) (.ref C_RowError) = some true)
    (xk_rl : PySem.W.kitOne K (.ref C_Reader) (.type "list") = some false)
    (xk_rt : PySem.W.kitOne K (.ref C_Reader) (.type "tuple") = some false)
    (a_take : PySem.W.nsIn K mainGlobals "_law_take" = some (some (.ref f_take)))
    (l_take : K.lookup f_take = some ⟨oc_take, od_take, .func (PySem.W.fnOf "_law_take" "_law_take" (C8.fnArgs s_take) (C8.fnBody s_take) (C8.fnScope s_take) .none kV_take dc_take pm_take an_take cd_take ct_take), sl_take⟩)
    (c_take : PySem.W.codeIn K cd_take "_law_take" = true)
    (k_take : PySem.W.keepIn K (.ref f_take) = true)
    (a_pick : PySem.W.nsIn K mainGlobals "_law_pick" = some (some (.ref f_pick)))
    (l_pick : K.lookup f_pick = some ⟨oc_pick, od_pick, .func (PySem.W.fnOf "_law_pick" "_law_pick" (C8.fnArgs s_pick) (C8.fnBody s_pick) (C8.fnScope s_pick) .none kV_pick dc_pick pm_pick an_pick cd_pick ct_pick), sl_pick⟩)
    (c_pick : PySem.W.codeIn K cd_pick "_law_pick" = true)
    (k_pick : PySem.W.keepIn K (.ref f_pick) = true)
    (a_mixed : PySem.W.nsIn K mainGlobals "_law_mixed" = some (some (.ref f_mixed)))
    (l_mixed : K.lookup f_mixed = some ⟨oc_mixed, od_mixed, .func (PySem.W.fnOf "_law_mixed" "_law_mixed" (C8.fnArgs s_mixed) (C8.fnBody s_mixed) (C8.fnScope s_mixed) .none kV_mixed dc_mixed pm_mixed an_mixed cd_mixed ct_mixed), sl_mixed⟩)
    (c_mixed : PySem.W.codeIn K cd_mixed "_law_mixed" = true)
    (k_mixed : PySem.W.keepIn K (.ref f_mixed) = true)
    (a_signs : PySem.W.nsIn K mainGlobals "_law_signs" = some (some (.ref f_signs)))
    (l_signs : K.lookup f_signs = some ⟨oc_signs, od_signs, .func (PySem.W.fnOf "_law_signs" "_law_signs" (C8.fnArgs s_signs) (C8.fnBody s_signs) (C8.fnScope s_signs) .none kV_signs dc_signs pm_signs an_signs cd_signs ct_signs), sl_signs⟩)
    (c_signs : PySem.W.codeIn K cd_signs "_law_signs" = true)
    (k_signs : PySem.W.keepIn K (.ref f_signs) = true)
    (a_drawn : PySem.W.nsIn K mainGlobals "_law_drawn" = some (some (.ref f_drawn)))
    (l_drawn : K.lookup f_drawn = some ⟨oc_drawn, od_drawn, .func (PySem.W.fnOf "_law_drawn" "_law_drawn" (C8.fnArgs s_drawn) (C8.fnBody s_drawn) (C8.fnScope s_drawn) .none kV_drawn dc_drawn pm_drawn an_drawn cd_drawn ct_drawn), sl_drawn⟩)
    (c_drawn : PySem.W.codeIn K cd_drawn "_law_drawn" = true)
    (k_drawn : PySem.W.keepIn K (.ref f_drawn) = true)
    (a_box : PySem.W.nsIn K mainGlobals "_law_box" = some (some (.ref f_box)))
    (l_box : K.lookup f_box = some ⟨oc_box, od_box, .func (PySem.W.fnOf "_law_box" "_law_box" (C8.fnArgs s_box) (C8.fnBody s_box) (C8.fnScope s_box) .none kV_box dc_box pm_box an_box cd_box ct_box), sl_box⟩)
    (c_box : PySem.W.codeIn K cd_box "_law_box" = true)
    (k_box : PySem.W.keepIn K (.ref f_box) = true)
    (a_isseq : PySem.W.nsIn K mainGlobals "is_sequence" = some (some (.ref f_isseq)))
    (l_isseq : K.lookup f_isseq = some ⟨oc_isseq, od_isseq, .func (PySem.W.fnOf "is_sequence" "is_sequence" (C8.fnArgs s_isseq) (C8.fnBody s_isseq) (C8.fnScope s_isseq) .none kV_isseq dc_isseq pm_isseq an_isseq cd_isseq ct_isseq), sl_isseq⟩)
    (c_isseq : PySem.W.codeIn K cd_isseq "is_sequence" = true)
    (k_isseq : PySem.W.keepIn K (.ref f_isseq) = true)
    (a_isrow : PySem.W.nsIn K mainGlobals "is_row" = some (some (.ref f_isrow)))
    (l_isrow : K.lookup f_isrow = some ⟨oc_isrow, od_isrow, .func (PySem.W.fnOf "is_row" "is_row" (C8.fnArgs s_isrow) (C8.fnBody s_isrow) (C8.fnScope s_isrow) .none kV_isrow dc_isrow pm_isrow an_isrow cd_isrow ct_isrow), sl_isrow⟩)
    (c_isrow : PySem.W.codeIn K cd_isrow "is_row" = true)
    (k_isrow : PySem.W.keepIn K (.ref f_isrow) = true)
    (a_isletters : PySem.W.nsIn K mainGlobals "is_letters" = some (some (.ref f_isletters)))
    (l_isletters : K.lookup f_isletters = some ⟨oc_isletters, od_isletters, .func (PySem.W.fnOf "is_letters" "is_letters" (C8.fnArgs s_isletters) (C8.fnBody s_isletters) (C8.fnScope s_isletters) .none kV_isletters dc_isletters pm_isletters an_isletters cd_isletters ct_isletters), sl_isletters⟩)
    (c_isletters : PySem.W.codeIn K cd_isletters "is_letters" = true)
    (k_isletters : PySem.W.keepIn K (.ref f_isletters) = true)
    (a_issigns : PySem.W.nsIn K mainGlobals "is_signs" = some (some (.ref f_issigns)))
    (l_issigns : K.lookup f_issigns = some ⟨oc_issigns, od_issigns, .func (PySem.W.fnOf "is_signs" "is_signs" (C8.fnArgs s_issigns) (C8.fnBody s_issigns) (C8.fnScope s_issigns) .none kV_issigns dc_issigns pm_issigns an_issigns cd_issigns ct_issigns), sl_issigns⟩)
    (c_issigns : PySem.W.codeIn K cd_issigns "is_signs" = true)
    (k_issigns : PySem.W.keepIn K (.ref f_issigns) = true)
    (a_isname : PySem.W.nsIn K mainGlobals "is_name" = some (some (.ref f_isname)))
    (l_isname : K.lookup f_isname = some ⟨oc_isname, od_isname, .func (PySem.W.fnOf "is_name" "is_name" (C8.fnArgs s_isname) (C8.fnBody s_isname) (C8.fnScope s_isname) .none kV_isname dc_isname pm_isname an_isname cd_isname ct_isname), sl_isname⟩)
    (c_isname : PySem.W.codeIn K cd_isname "is_name" = true)
    (k_isname : PySem.W.keepIn K (.ref f_isname) = true)
    (a_ismarks : PySem.W.nsIn K mainGlobals "_is_marks" = some (some (.ref f_ismarks)))
    (l_ismarks : K.lookup f_ismarks = some ⟨oc_ismarks, od_ismarks, .func (PySem.W.fnOf "_is_marks" "_is_marks" (C8.fnArgs s_ismarks) (C8.fnBody s_ismarks) (C8.fnScope s_ismarks) .none kV_ismarks dc_ismarks pm_ismarks an_ismarks cd_ismarks ct_ismarks), sl_ismarks⟩)
    (c_ismarks : PySem.W.codeIn K cd_ismarks "_is_marks" = true)
    (k_ismarks : PySem.W.keepIn K (.ref f_ismarks) = true)
    (a_istargets : PySem.W.nsIn K mainGlobals "_is_targets" = some (some (.ref f_istargets)))
    (l_istargets : K.lookup f_istargets = some ⟨oc_istargets, od_istargets, .func (PySem.W.fnOf "_is_targets" "_is_targets" (C8.fnArgs s_istargets) (C8.fnBody s_istargets) (C8.fnScope s_istargets) .none kV_istargets dc_istargets pm_istargets an_istargets cd_istargets ct_istargets), sl_istargets⟩)
    (c_istargets : PySem.W.codeIn K cd_istargets "_is_targets" = true)
    (k_istargets : PySem.W.keepIn K (.ref f_istargets) = true)
    (a_issteps : PySem.W.nsIn K mainGlobals "_is_steps" = some (some (.ref f_issteps)))
    (l_issteps : K.lookup f_issteps = some ⟨oc_issteps, od_issteps, .func (PySem.W.fnOf "_is_steps" "_is_steps" (C8.fnArgs s_issteps) (C8.fnBody s_issteps) (C8.fnScope s_issteps) .none kV_issteps dc_issteps pm_issteps an_issteps cd_issteps ct_issteps), sl_issteps⟩)
    (c_issteps : PySem.W.codeIn K cd_issteps "_is_steps" = true)
    (k_issteps : PySem.W.keepIn K (.ref f_issteps) = true)
    (a_m_num : PySem.W.findIn K (.ref C_Reader) "number_of" = some (some (.ref f_m_num)))
    (i_m_num : PySem.W.isFn K (.ref f_m_num) = true)
    (l_m_num : K.lookup f_m_num = some ⟨oc_m_num, od_m_num, .func (PySem.W.fnOf "number_of" "Reader.number_of" (C8.fnArgs s_m_num) (C8.fnBody s_m_num) (C8.fnScope s_m_num) .none kV_m_num dc_m_num pm_m_num an_m_num cd_m_num ct_m_num), sl_m_num⟩)
    (c_m_num : PySem.W.codeIn K cd_m_num "Reader.number_of" = true)
    (k_m_num : PySem.W.keepIn K (.ref f_m_num) = true)
    (a_table : PySem.W.nsIn K mainGlobals "table_of" = some (some (.ref f_table)))
    (l_table : K.lookup f_table = some ⟨oc_table, od_table, .func (PySem.W.fnOf "table_of" "table_of" (C8.fnArgs s_table) (C8.fnBody s_table) (C8.fnScope s_table) .none kV_table dc_table pm_table an_table cd_table ct_table), sl_table⟩)
    (c_table : PySem.W.codeIn K cd_table "table_of" = true)
    (k_table : PySem.W.keepIn K (.ref f_table) = true)
    (a_cols : PySem.W.nsIn K mainGlobals "columns_of" = some (some (.ref f_cols)))
    (l_cols : K.lookup f_cols = some ⟨oc_cols, od_cols, .func (PySem.W.fnOf "columns_of" "columns_of" (C8.fnArgs s_cols) (C8.fnBody s_cols) (C8.fnScope s_cols) .none kV_cols dc_cols pm_cols an_cols cd_cols ct_cols), sl_cols⟩)
    (c_cols : PySem.W.codeIn K cd_cols "columns_of" = true)
    (k_cols : PySem.W.keepIn K (.ref f_cols) = true)
    (a_init : PySem.W.findIn K (.ref C_Reader) "__init__" = some (some (.ref f_init)))
    (i_init : PySem.W.isFn K (.ref f_init) = true)
    (l_init : K.lookup f_init = some ⟨oc_init, od_init, .func (PySem.W.fnOf "__init__" "Reader.__init__" (C8.fnArgs s_init) (C8.fnBody s_init) (C8.fnScope s_init) .none kV_init dc_init pm_init an_init cd_init ct_init), sl_init⟩)
    (c_init : PySem.W.codeIn K cd_init "Reader.__init__" = true)
    (k_init : PySem.W.keepIn K (.ref f_init) = true)
    (a_ismark : PySem.W.nsIn K mainGlobals "is_mark" = some (some (.ref f_ismark)))
    (l_ismark : K.lookup f_ismark = some ⟨oc_ismark, od_ismark, .func (PySem.W.fnOf "is_mark" "is_mark" (C8.fnArgs s_ismark) (C8.fnBody s_ismark) (C8.fnScope s_ismark) .none kV_ismark dc_ismark pm_ismark an_ismark cd_ismark ct_ismark), sl_ismark⟩)
    (c_ismark : PySem.W.codeIn K cd_ismark "is_mark" = true)
    (k_ismark : PySem.W.keepIn K (.ref f_ismark) = true)
    (a_xnm : PySem.W.findIn K (.ref C_NoMark) "__init__" = some (some (.ref f_xnm)))
    (i_xnm : PySem.W.isFn K (.ref f_xnm) = true)
    (l_xnm : K.lookup f_xnm = some ⟨oc_xnm, od_xnm, .func (PySem.W.fnOf "__init__" "NoMark.__init__" (C8.fnArgs s_xnm) (C8.fnBody s_xnm) (C8.fnScope s_xnm) .none kV_xnm dc_xnm pm_xnm an_xnm cd_xnm ct_xnm), sl_xnm⟩)
    (c_xnm : PySem.W.codeIn K cd_xnm "NoMark.__init__" = true)
    (k_xnm : PySem.W.keepIn K (.ref f_xnm) = true)
    (a_numbered : PySem.W.nsIn K mainGlobals "numbered" = some (some (.ref f_numbered)))
    (l_numbered : K.lookup f_numbered = some ⟨oc_numbered, od_numbered, .func (PySem.W.fnOf "numbered" "numbered" (C8.fnArgs s_numbered) (C8.fnBody s_numbered) (C8.fnScope s_numbered) .none kV_numbered dc_numbered pm_numbered an_numbered cd_numbered ct_numbered), sl_numbered⟩)
    (c_numbered : PySem.W.codeIn K cd_numbered "numbered" = true)
    (k_numbered : PySem.W.keepIn K (.ref f_numbered) = true)
    (a_alike : PySem.W.nsIn K mainGlobals "alike_numbers" = some (some (.ref f_alike)))
    (l_alike : K.lookup f_alike = some ⟨oc_alike, od_alike, .func (PySem.W.fnOf "alike_numbers" "alike_numbers" (C8.fnArgs s_alike) (C8.fnBody s_alike) (C8.fnScope s_alike) .none kV_alike dc_alike pm_alike an_alike cd_alike ct_alike), sl_alike⟩)
    (c_alike : PySem.W.codeIn K cd_alike "alike_numbers" = true)
    (k_alike : PySem.W.keepIn K (.ref f_alike) = true)
    (a_until : PySem.W.nsIn K mainGlobals "_walked_until" = some (some (.ref f_until)))
    (l_until : K.lookup f_until = some ⟨oc_until, od_until, .func (PySem.W.fnOf "_walked_until" "_walked_until" (C8.fnArgs s_until) (C8.fnBody s_until) (C8.fnScope s_until) .none kV_until dc_until pm_until an_until cd_until ct_until), sl_until⟩)
    (c_until : PySem.W.codeIn K cd_until "_walked_until" = true)
    (k_until : PySem.W.keepIn K (.ref f_until) = true)
    (a_least : PySem.W.nsIn K mainGlobals "least_way" = some (some (.ref f_least)))
    (l_least : K.lookup f_least = some ⟨oc_least, od_least, .func (PySem.W.fnOf "least_way" "least_way" (C8.fnArgs s_least) (C8.fnBody s_least) (C8.fnScope s_least) .none kV_least dc_least pm_least an_least cd_least ct_least), sl_least⟩)
    (c_least : PySem.W.codeIn K cd_least "least_way" = true)
    (k_least : PySem.W.keepIn K (.ref f_least) = true)
    (a_islot : PySem.W.nsIn K mainGlobals "is_lot" = some (some (.ref f_islot)))
    (l_islot : K.lookup f_islot = some ⟨oc_islot, od_islot, .func (PySem.W.fnOf "is_lot" "is_lot" (C8.fnArgs s_islot) (C8.fnBody s_islot) (C8.fnScope s_islot) .none kV_islot dc_islot pm_islot an_islot cd_islot ct_islot), sl_islot⟩)
    (c_islot : PySem.W.codeIn K cd_islot "is_lot" = true)
    (k_islot : PySem.W.keepIn K (.ref f_islot) = true)
    (a_chlot : PySem.W.nsIn K mainGlobals "check_lot" = some (some (.ref f_chlot)))
    (l_chlot : K.lookup f_chlot = some ⟨oc_chlot, od_chlot, .func (PySem.W.fnOf "check_lot" "check_lot" (C8.fnArgs s_chlot) (C8.fnBody s_chlot) (C8.fnScope s_chlot) .none kV_chlot dc_chlot pm_chlot an_chlot cd_chlot ct_chlot), sl_chlot⟩)
    (c_chlot : PySem.W.codeIn K cd_chlot "check_lot" = true)
    (k_chlot : PySem.W.keepIn K (.ref f_chlot) = true)
    (a_flags : PySem.W.nsIn K mainGlobals "flags_of" = some (some (.ref f_flags)))
    (l_flags : K.lookup f_flags = some ⟨oc_flags, od_flags, .func (PySem.W.fnOf "flags_of" "flags_of" (C8.fnArgs s_flags) (C8.fnBody s_flags) (C8.fnScope s_flags) .none kV_flags dc_flags pm_flags an_flags cd_flags ct_flags), sl_flags⟩)
    (c_flags : PySem.W.codeIn K cd_flags "flags_of" = true)
    (k_flags : PySem.W.keepIn K (.ref f_flags) = true)
    (a_parting : PySem.W.nsIn K mainGlobals "parting" = some (some (.ref f_parting)))
    (l_parting : K.lookup f_parting = some ⟨oc_parting, od_parting, .func (PySem.W.fnOf "parting" "parting" (C8.fnArgs s_parting) (C8.fnBody s_parting) (C8.fnScope s_parting) .none kV_parting dc_parting pm_parting an_parting cd_parting ct_parting), sl_parting⟩)
    (c_parting : PySem.W.codeIn K cd_parting "parting" = true)
    (k_parting : PySem.W.keepIn K (.ref f_parting) = true)
    (a_classes : PySem.W.nsIn K mainGlobals "classes" = some (some (.ref f_classes)))
    (l_classes : K.lookup f_classes = some ⟨oc_classes, od_classes, .func (PySem.W.fnOf "classes" "classes" (C8.fnArgs s_classes) (C8.fnBody s_classes) (C8.fnScope s_classes) .none kV_classes dc_classes pm_classes an_classes cd_classes ct_classes), sl_classes⟩)
    (c_classes : PySem.W.codeIn K cd_classes "classes" = true)
    (k_classes : PySem.W.keepIn K (.ref f_classes) = true)
    (a_groups : PySem.W.nsIn K mainGlobals "_groups" = some (some (.ref f_groups)))
    (l_groups : K.lookup f_groups = some ⟨oc_groups, od_groups, .func (PySem.W.fnOf "_groups" "_groups" (C8.fnArgs s_groups) (C8.fnBody s_groups) (C8.fnScope s_groups) .none kV_groups dc_groups pm_groups an_groups cd_groups ct_groups), sl_groups⟩)
    (c_groups : PySem.W.codeIn K cd_groups "_groups" = true)
    (k_groups : PySem.W.keepIn K (.ref f_groups) = true)
    (a_pairlead : PySem.W.nsIn K mainGlobals "_pair_lead" = some (some (.ref f_pairlead)))
    (l_pairlead : K.lookup f_pairlead = some ⟨oc_pairlead, od_pairlead, .func (PySem.W.fnOf "_pair_lead" "_pair_lead" (C8.fnArgs s_pairlead) (C8.fnBody s_pairlead) (C8.fnScope s_pairlead) .none kV_pairlead dc_pairlead pm_pairlead an_pairlead (.ref cc_pairlead) ct_pairlead), sl_pairlead⟩)
    (lc_pairlead : K.lookup cc_pairlead = some ⟨oc2_pairlead, oe_pairlead, .fields vs_pairlead, sl2_pairlead⟩)
    (pv_pairlead : (vs_pairlead[11]? : Option Value) = some (.ref PP_pairlead))
    (tn_pairlead : K.lookup PP_pairlead = none)
    (c_pairlead : PySem.W.codeIn K (.ref cc_pairlead) "_pair_lead" = true)
    (k_pairlead : PySem.W.keepIn K (.ref f_pairlead) = true)
    (a_partrow : PySem.W.nsIn K mainGlobals "_parting_row" = some (some (.ref f_partrow)))
    (l_partrow : K.lookup f_partrow = some ⟨oc_partrow, od_partrow, .func (PySem.W.fnOf "_parting_row" "_parting_row" (C8.fnArgs s_partrow) (C8.fnBody s_partrow) (C8.fnScope s_partrow) .none kV_partrow dc_partrow pm_partrow an_partrow (.ref cc_partrow) ct_partrow), sl_partrow⟩)
    (lc_partrow : K.lookup cc_partrow = some ⟨oc2_partrow, oe_partrow, .fields vs_partrow, sl2_partrow⟩)
    (pv_partrow : (vs_partrow[11]? : Option Value) = some (.ref PP_partrow))
    (tn_partrow : K.lookup PP_partrow = none)
    (c_partrow : PySem.W.codeIn K (.ref cc_partrow) "_parting_row" = true)
    (k_partrow : PySem.W.keepIn K (.ref f_partrow) = true)
    (a_made : PySem.W.nsIn K mainGlobals "_law_made" = some (some (.ref f_made)))
    (l_made : K.lookup f_made = some ⟨oc_made, od_made, .func (PySem.W.fnOf "_law_made" "_law_made" (C8.fnArgs s_made) (C8.fnBody s_made) (C8.fnScope s_made) .none kV_made dc_made pm_made an_made cd_made ct_made), sl_made⟩)
    (c_made : PySem.W.codeIn K cd_made "_law_made" = true)
    (k_made : PySem.W.keepIn K (.ref f_made) = true)
    (a_led : PySem.W.nsIn K mainGlobals "_law_led" = some (some (.ref f_led)))
    (l_led : K.lookup f_led = some ⟨oc_led, od_led, .func (PySem.W.fnOf "_law_led" "_law_led" (C8.fnArgs s_led) (C8.fnBody s_led) (C8.fnScope s_led) .none kV_led dc_led pm_led an_led cd_led ct_led), sl_led⟩)
    (c_led : PySem.W.codeIn K cd_led "_law_led" = true)
    (k_led : PySem.W.keepIn K (.ref f_led) = true)
    (a_rows : PySem.W.nsIn K mainGlobals "_law_rows" = some (some (.ref f_rows)))
    (l_rows : K.lookup f_rows = some ⟨oc_rows, od_rows, .func (PySem.W.fnOf "_law_rows" "_law_rows" (C8.fnArgs s_rows) (C8.fnBody s_rows) (C8.fnScope s_rows) .none kV_rows dc_rows pm_rows an_rows cd_rows ct_rows), sl_rows⟩)
    (c_rows : PySem.W.codeIn K cd_rows "_law_rows" = true)
    (k_rows : PySem.W.keepIn K (.ref f_rows) = true)
    (a_lot : PySem.W.nsIn K mainGlobals "_law_lot" = some (some (.ref f_lot)))
    (l_lot : K.lookup f_lot = some ⟨oc_lot, od_lot, .func (PySem.W.fnOf "_law_lot" "_law_lot" (C8.fnArgs s_lot) (C8.fnBody s_lot) (C8.fnScope s_lot) .none kV_lot dc_lot pm_lot an_lot cd_lot ct_lot), sl_lot⟩)
    (c_lot : PySem.W.codeIn K cd_lot "_law_lot" = true)
    (k_lot : PySem.W.keepIn K (.ref f_lot) = true)
    (a_lparted : PySem.W.nsIn K mainGlobals "_law_parted" = some (some (.ref f_lparted)))
    (l_lparted : K.lookup f_lparted = some ⟨oc_lparted, od_lparted, .func (PySem.W.fnOf "_law_parted" "_law_parted" (C8.fnArgs s_lparted) (C8.fnBody s_lparted) (C8.fnScope s_lparted) .none kV_lparted dc_lparted pm_lparted an_lparted cd_lparted ct_lparted), sl_lparted⟩)
    (c_lparted : PySem.W.codeIn K cd_lparted "_law_parted" = true)
    (k_lparted : PySem.W.keepIn K (.ref f_lparted) = true)
    (a_lclasses : PySem.W.nsIn K mainGlobals "_law_classes" = some (some (.ref f_lclasses)))
    (l_lclasses : K.lookup f_lclasses = some ⟨oc_lclasses, od_lclasses, .func (PySem.W.fnOf "_law_classes" "_law_classes" (C8.fnArgs s_lclasses) (C8.fnBody s_lclasses) (C8.fnScope s_lclasses) .none kV_lclasses dc_lclasses pm_lclasses an_lclasses cd_lclasses ct_lclasses), sl_lclasses⟩)
    (c_lclasses : PySem.W.codeIn K cd_lclasses "_law_classes" = true)
    (k_lclasses : PySem.W.keepIn K (.ref f_lclasses) = true)
    (a_heard : PySem.W.nsIn K mainGlobals "_law_heard" = some (some (.ref f_heard)))
    (l_heard : K.lookup f_heard = some ⟨oc_heard, od_heard, .func (PySem.W.fnOf "_law_heard" "_law_heard" (C8.fnArgs s_heard) (C8.fnBody s_heard) (C8.fnScope s_heard) .none kV_heard dc_heard pm_heard an_heard cd_heard ct_heard), sl_heard⟩)
    (c_heard : PySem.W.codeIn K cd_heard "_law_heard" = true)
    (k_heard : PySem.W.keepIn K (.ref f_heard) = true)
    (a_refused : PySem.W.nsIn K mainGlobals "_law_refused_right" = some (some (.ref f_refused)))
    (l_refused : K.lookup f_refused = some ⟨oc_refused, od_refused, .func (PySem.W.fnOf "_law_refused_right" "_law_refused_right" (C8.fnArgs s_refused) (C8.fnBody s_refused) (C8.fnScope s_refused) .none kV_refused dc_refused pm_refused an_refused cd_refused ct_refused), sl_refused⟩)
    (c_refused : PySem.W.codeIn K cd_refused "_law_refused_right" = true)
    (k_refused : PySem.W.keepIn K (.ref f_refused) = true)
    (a_law : PySem.W.nsIn K mainGlobals "law" = some (some (.ref f_law)))
    (l_law : K.lookup f_law = some ⟨oc_law, od_law, .func (PySem.W.fnOf "law" "law" (C8.fnArgs s_law) (C8.fnBody s_law) (C8.fnScope s_law) .none kV_law dc_law pm_law an_law cd_law ct_law), sl_law⟩)
    (c_law : PySem.W.codeIn K cd_law "law" = true)
    (k_law : PySem.W.keepIn K (.ref f_law) = true)
    (xne : PP_pairlead ≠ PP_partrow)
    (z_int : PySem.W.nsIn K mainGlobals "int" = some none)
    (z_len : PySem.W.nsIn K mainGlobals "len" = some none)
    (z_abs : PySem.W.nsIn K mainGlobals "abs" = some none)
    (z_str : PySem.W.nsIn K mainGlobals "str" = some none)
    (z_list : PySem.W.nsIn K mainGlobals "list" = some none)
    (z_tuple : PySem.W.nsIn K mainGlobals "tuple" = some none)
    (z_dict : PySem.W.nsIn K mainGlobals "dict" = some none)
    (z_set : PySem.W.nsIn K mainGlobals "set" = some none)
    (z_isinstance : PySem.W.nsIn K mainGlobals "isinstance" = some none)
    (z_all : PySem.W.nsIn K mainGlobals "all" = some none)
    (z_zip : PySem.W.nsIn K mainGlobals "zip" = some none)
    (z_enumerate : PySem.W.nsIn K mainGlobals "enumerate" = some none)
    (z_range : PySem.W.nsIn K mainGlobals "range" = some none)
    (z_max : PySem.W.nsIn K mainGlobals "max" = some none)
    (z_min : PySem.W.nsIn K mainGlobals "min" = some none)
    (z_sorted : PySem.W.nsIn K mainGlobals "sorted" = some none)
    (z_repr : PySem.W.nsIn K mainGlobals "repr" = some none) :
    ∃ (fd : FuncData) (tt : List (Addr × Addr)), (∀ p ∈ tt, (∃ (nm : Str) (e : DefRec), PySem.W.tabIn K nm = some p ∧ (PyProof.Rows.recsOf qp).find? (fun e => e.name == nm) = some e) ∧ K.lookup p.2 = none) ∧ (∀ (s : Shared) (v : Value), BindsTo s fd ⟨[v], []⟩ [("script", v)]) ∧ ∀ base : Heap, K.In base → base.Ns mainGlobals mg → (∀ p ∈ tt, LamX.TabB base mg p.1 p.2) → FnG l.prog w K mg base 8 fa fd ["script"] (spLaw (ttOf tt) K) := by
  have e := hfa.symm.trans (PySem.W.mg_of X G a_law)
  cases e
  have T : BT mg := ⟨PySem.W.mg_none_of X G z_int, PySem.W.mg_none_of X G z_len, PySem.W.mg_none_of X G z_abs, PySem.W.mg_none_of X G z_str, PySem.W.mg_none_of X G z_list, PySem.W.mg_none_of X G z_tuple, PySem.W.mg_none_of X G z_dict, PySem.W.mg_none_of X G z_set, PySem.W.mg_none_of X G z_isinstance, PySem.W.mg_none_of X G z_all, PySem.W.mg_none_of X G z_zip, PySem.W.mg_none_of X G z_enumerate, PySem.W.mg_none_of X G z_range, PySem.W.mg_none_of X G z_max, PySem.W.mg_none_of X G z_min, PySem.W.mg_none_of X G z_sorted, PySem.W.mg_none_of X G z_repr⟩
  have mg_az := PySem.W.mg_of X G q_az
  have U_take : C8.Fun K "_law_take" "_law_take" s_take f_take (PySem.W.fnOf "_law_take" "_law_take" (C8.fnArgs s_take) (C8.fnBody s_take) (C8.fnScope s_take) .none kV_take dc_take pm_take an_take cd_take ct_take) := ⟨oc_take, od_take, .none, kV_take, dc_take, pm_take, an_take, cd_take, ct_take, sl_take, rfl, l_take, c_take⟩
  have F_take : C8.Def K mg "_law_take" s_take f_take _ := ⟨U_take, PySem.W.mg_of X G a_take, k_take⟩
  have b_take := U_take.binds rfl (ps := ["box", "many"]) fun _ _ _ _ _ _ us hl => match us, hl with | [_, _], _ => rfl
  have U_pick : C8.Fun K "_law_pick" "_law_pick" s_pick f_pick (PySem.W.fnOf "_law_pick" "_law_pick" (C8.fnArgs s_pick) (C8.fnBody s_pick) (C8.fnScope s_pick) .none kV_pick dc_pick pm_pick an_pick cd_pick ct_pick) := ⟨oc_pick, od_pick, .none, kV_pick, dc_pick, pm_pick, an_pick, cd_pick, ct_pick, sl_pick, rfl, l_pick, c_pick⟩
  have F_pick : C8.Def K mg "_law_pick" s_pick f_pick _ := ⟨U_pick, PySem.W.mg_of X G a_pick, k_pick⟩
  have b_pick := U_pick.binds rfl (ps := ["box", "some"]) fun _ _ _ _ _ _ us hl => match us, hl with | [_, _], _ => rfl
  have U_mixed : C8.Fun K "_law_mixed" "_law_mixed" s_mixed f_mixed (PySem.W.fnOf "_law_mixed" "_law_mixed" (C8.fnArgs s_mixed) (C8.fnBody s_mixed) (C8.fnScope s_mixed) .none kV_mixed dc_mixed pm_mixed an_mixed cd_mixed ct_mixed) := ⟨oc_mixed, od_mixed, .none, kV_mixed, dc_mixed, pm_mixed, an_mixed, cd_mixed, ct_mixed, sl_mixed, rfl, l_mixed, c_mixed⟩
  have F_mixed : C8.Def K mg "_law_mixed" s_mixed f_mixed _ := ⟨U_mixed, PySem.W.mg_of X G a_mixed, k_mixed⟩
  have b_mixed := U_mixed.binds rfl (ps := ["box", "some"]) fun _ _ _ _ _ _ us hl => match us, hl with | [_, _], _ => rfl
  have U_signs : C8.Fun K "_law_signs" "_law_signs" s_signs f_signs (PySem.W.fnOf "_law_signs" "_law_signs" (C8.fnArgs s_signs) (C8.fnBody s_signs) (C8.fnScope s_signs) .none kV_signs dc_signs pm_signs an_signs cd_signs ct_signs) := ⟨oc_signs, od_signs, .none, kV_signs, dc_signs, pm_signs, an_signs, cd_signs, ct_signs, sl_signs, rfl, l_signs, c_signs⟩
  have F_signs : C8.Def K mg "_law_signs" s_signs f_signs _ := ⟨U_signs, PySem.W.mg_of X G a_signs, k_signs⟩
  have b_signs := U_signs.binds rfl (ps := ["box"]) fun _ _ _ _ _ _ us hl => match us, hl with | [_], _ => rfl
  have U_drawn : C8.Fun K "_law_drawn" "_law_drawn" s_drawn f_drawn (PySem.W.fnOf "_law_drawn" "_law_drawn" (C8.fnArgs s_drawn) (C8.fnBody s_drawn) (C8.fnScope s_drawn) .none kV_drawn dc_drawn pm_drawn an_drawn cd_drawn ct_drawn) := ⟨oc_drawn, od_drawn, .none, kV_drawn, dc_drawn, pm_drawn, an_drawn, cd_drawn, ct_drawn, sl_drawn, rfl, l_drawn, c_drawn⟩
  have F_drawn : C8.Def K mg "_law_drawn" s_drawn f_drawn _ := ⟨U_drawn, PySem.W.mg_of X G a_drawn, k_drawn⟩
  have b_drawn := U_drawn.binds rfl (ps := ["box", "signs", "most"]) fun _ _ _ _ _ _ us hl => match us, hl with | [_, _, _], _ => rfl
  have U_box : C8.Fun K "_law_box" "_law_box" s_box f_box (PySem.W.fnOf "_law_box" "_law_box" (C8.fnArgs s_box) (C8.fnBody s_box) (C8.fnScope s_box) .none kV_box dc_box pm_box an_box cd_box ct_box) := ⟨oc_box, od_box, .none, kV_box, dc_box, pm_box, an_box, cd_box, ct_box, sl_box, rfl, l_box, c_box⟩
  have F_box : C8.Def K mg "_law_box" s_box f_box _ := ⟨U_box, PySem.W.mg_of X G a_box, k_box⟩
  have b_box := U_box.binds rfl (ps := ["script", "base"]) fun _ _ _ _ _ _ us hl => match us, hl with | [_, _], _ => rfl
  have U_isseq : C8.Fun K "is_sequence" "is_sequence" s_isseq f_isseq (PySem.W.fnOf "is_sequence" "is_sequence" (C8.fnArgs s_isseq) (C8.fnBody s_isseq) (C8.fnScope s_isseq) .none kV_isseq dc_isseq pm_isseq an_isseq cd_isseq ct_isseq) := ⟨oc_isseq, od_isseq, .none, kV_isseq, dc_isseq, pm_isseq, an_isseq, cd_isseq, ct_isseq, sl_isseq, rfl, l_isseq, c_isseq⟩
  have F_isseq : C8.Def K mg "is_sequence" s_isseq f_isseq _ := ⟨U_isseq, PySem.W.mg_of X G a_isseq, k_isseq⟩
  have b_isseq := U_isseq.binds rfl (ps := ["value"]) fun _ _ _ _ _ _ us hl => match us, hl with | [_], _ => rfl
  have U_isrow : C8.Fun K "is_row" "is_row" s_isrow f_isrow (PySem.W.fnOf "is_row" "is_row" (C8.fnArgs s_isrow) (C8.fnBody s_isrow) (C8.fnScope s_isrow) .none kV_isrow dc_isrow pm_isrow an_isrow cd_isrow ct_isrow) := ⟨oc_isrow, od_isrow, .none, kV_isrow, dc_isrow, pm_isrow, an_isrow, cd_isrow, ct_isrow, sl_isrow, rfl, l_isrow, c_isrow⟩
  have F_isrow : C8.Def K mg "is_row" s_isrow f_isrow _ := ⟨U_isrow, PySem.W.mg_of X G a_isrow, k_isrow⟩
  have b_isrow := U_isrow.binds rfl (ps := ["value", "signs"]) fun _ _ _ _ _ _ us hl => match us, hl with | [_, _], _ => rfl
  have U_isletters : C8.Fun K "is_letters" "is_letters" s_isletters f_isletters (PySem.W.fnOf "is_letters" "is_letters" (C8.fnArgs s_isletters) (C8.fnBody s_isletters) (C8.fnScope s_isletters) .none kV_isletters dc_isletters pm_isletters an_isletters cd_isletters ct_isletters) := ⟨oc_isletters, od_isletters, .none, kV_isletters, dc_isletters, pm_isletters, an_isletters, cd_isletters, ct_isletters, sl_isletters, rfl, l_isletters, c_isletters⟩
  have F_isletters : C8.Def K mg "is_letters" s_isletters f_isletters _ := ⟨U_isletters, PySem.W.mg_of X G a_isletters, k_isletters⟩
  have b_isletters := U_isletters.binds rfl (ps := ["value"]) fun _ _ _ _ _ _ us hl => match us, hl with | [_], _ => rfl
  have U_issigns : C8.Fun K "is_signs" "is_signs" s_issigns f_issigns (PySem.W.fnOf "is_signs" "is_signs" (C8.fnArgs s_issigns) (C8.fnBody s_issigns) (C8.fnScope s_issigns) .none kV_issigns dc_issigns pm_issigns an_issigns cd_issigns ct_issigns) := ⟨oc_issigns, od_issigns, .none, kV_issigns, dc_issigns, pm_issigns, an_issigns, cd_issigns, ct_issigns, sl_issigns, rfl, l_issigns, c_issigns⟩
  have F_issigns : C8.Def K mg "is_signs" s_issigns f_issigns _ := ⟨U_issigns, PySem.W.mg_of X G a_issigns, k_issigns⟩
  have b_issigns := U_issigns.binds rfl (ps := ["value"]) fun _ _ _ _ _ _ us hl => match us, hl with | [_], _ => rfl
  have U_isname : C8.Fun K "is_name" "is_name" s_isname f_isname (PySem.W.fnOf "is_name" "is_name" (C8.fnArgs s_isname) (C8.fnBody s_isname) (C8.fnScope s_isname) .none kV_isname dc_isname pm_isname an_isname cd_isname ct_isname) := ⟨oc_isname, od_isname, .none, kV_isname, dc_isname, pm_isname, an_isname, cd_isname, ct_isname, sl_isname, rfl, l_isname, c_isname⟩
  have F_isname : C8.Def K mg "is_name" s_isname f_isname _ := ⟨U_isname, PySem.W.mg_of X G a_isname, k_isname⟩
  have b_isname := U_isname.binds rfl (ps := ["value"]) fun _ _ _ _ _ _ us hl => match us, hl with | [_], _ => rfl
  have U_ismarks : C8.Fun K "_is_marks" "_is_marks" s_ismarks f_ismarks (PySem.W.fnOf "_is_marks" "_is_marks" (C8.fnArgs s_ismarks) (C8.fnBody s_ismarks) (C8.fnScope s_ismarks) .none kV_ismarks dc_ismarks pm_ismarks an_ismarks cd_ismarks ct_ismarks) := ⟨oc_ismarks, od_ismarks, .none, kV_ismarks, dc_ismarks, pm_ismarks, an_ismarks, cd_ismarks, ct_ismarks, sl_ismarks, rfl, l_ismarks, c_ismarks⟩
  have F_ismarks : C8.Def K mg "_is_marks" s_ismarks f_ismarks _ := ⟨U_ismarks, PySem.W.mg_of X G a_ismarks, k_ismarks⟩
  have b_ismarks := U_ismarks.binds rfl (ps := ["value"]) fun _ _ _ _ _ _ us hl => match us, hl with | [_], _ => rfl
  have U_istargets : C8.Fun K "_is_targets" "_is_targets" s_istargets f_istargets (PySem.W.fnOf "_is_targets" "_is_targets" (C8.fnArgs s_istargets) (C8.fnBody s_istargets) (C8.fnScope s_istargets) .none kV_istargets dc_istargets pm_istargets an_istargets cd_istargets ct_istargets) := ⟨oc_istargets, od_istargets, .none, kV_istargets, dc_istargets, pm_istargets, an_istargets, cd_istargets, ct_istargets, sl_istargets, rfl, l_istargets, c_istargets⟩
  have F_istargets : C8.Def K mg "_is_targets" s_istargets f_istargets _ := ⟨U_istargets, PySem.W.mg_of X G a_istargets, k_istargets⟩
  have b_istargets := U_istargets.binds rfl (ps := ["value", "signs", "marks"]) fun _ _ _ _ _ _ us hl => match us, hl with | [_, _, _], _ => rfl
  have U_issteps : C8.Fun K "_is_steps" "_is_steps" s_issteps f_issteps (PySem.W.fnOf "_is_steps" "_is_steps" (C8.fnArgs s_issteps) (C8.fnBody s_issteps) (C8.fnScope s_issteps) .none kV_issteps dc_issteps pm_issteps an_issteps cd_issteps ct_issteps) := ⟨oc_issteps, od_issteps, .none, kV_issteps, dc_issteps, pm_issteps, an_issteps, cd_issteps, ct_issteps, sl_issteps, rfl, l_issteps, c_issteps⟩
  have F_issteps : C8.Def K mg "_is_steps" s_issteps f_issteps _ := ⟨U_issteps, PySem.W.mg_of X G a_issteps, k_issteps⟩
  have b_issteps := U_issteps.binds rfl (ps := ["value", "signs", "marks"]) fun _ _ _ _ _ _ us hl => match us, hl with | [_, _, _], _ => rfl
  have U_m_num : C8.Fun K "number_of" "Reader.number_of" s_m_num f_m_num (PySem.W.fnOf "number_of" "Reader.number_of" (C8.fnArgs s_m_num) (C8.fnBody s_m_num) (C8.fnScope s_m_num) .none kV_m_num dc_m_num pm_m_num an_m_num cd_m_num ct_m_num) := ⟨oc_m_num, od_m_num, .none, kV_m_num, dc_m_num, pm_m_num, an_m_num, cd_m_num, ct_m_num, sl_m_num, rfl, l_m_num, c_m_num⟩
  have me_m_num : Meth K C_Reader "number_of" f_m_num := ⟨a_m_num, i_m_num, k_m_num⟩
  have b_m_num := U_m_num.binds rfl (ps := ["self", "mark"]) fun _ _ _ _ _ _ us hl => match us, hl with | [_, _], _ => rfl
  have U_table : C8.Fun K "table_of" "table_of" s_table f_table (PySem.W.fnOf "table_of" "table_of" (C8.fnArgs s_table) (C8.fnBody s_table) (C8.fnScope s_table) .none kV_table dc_table pm_table an_table cd_table ct_table) := ⟨oc_table, od_table, .none, kV_table, dc_table, pm_table, an_table, cd_table, ct_table, sl_table, rfl, l_table, c_table⟩
  have F_table : C8.Def K mg "table_of" s_table f_table _ := ⟨U_table, PySem.W.mg_of X G a_table, k_table⟩
  have b_table := U_table.binds rfl (ps := ["reader"]) fun _ _ _ _ _ _ us hl => match us, hl with | [_], _ => rfl
  have U_cols : C8.Fun K "columns_of" "columns_of" s_cols f_cols (PySem.W.fnOf "columns_of" "columns_of" (C8.fnArgs s_cols) (C8.fnBody s_cols) (C8.fnScope s_cols) .none kV_cols dc_cols pm_cols an_cols cd_cols ct_cols) := ⟨oc_cols, od_cols, .none, kV_cols, dc_cols, pm_cols, an_cols, cd_cols, ct_cols, sl_cols, rfl, l_cols, c_cols⟩
  have F_cols : C8.Def K mg "columns_of" s_cols f_cols _ := ⟨U_cols, PySem.W.mg_of X G a_cols, k_cols⟩
  have b_cols := U_cols.binds rfl (ps := ["signs", "table"]) fun _ _ _ _ _ _ us hl => match us, hl with | [_, _], _ => rfl
  have U_init : C8.Fun K "__init__" "Reader.__init__" s_init f_init (PySem.W.fnOf "__init__" "Reader.__init__" (C8.fnArgs s_init) (C8.fnBody s_init) (C8.fnScope s_init) .none kV_init dc_init pm_init an_init cd_init ct_init) := ⟨oc_init, od_init, .none, kV_init, dc_init, pm_init, an_init, cd_init, ct_init, sl_init, rfl, l_init, c_init⟩
  have me_init : Meth K C_Reader "__init__" f_init := ⟨a_init, i_init, k_init⟩
  have b_init := U_init.binds rfl (ps := ["self", "signs", "marks", "first", "steps"]) fun _ _ _ _ _ _ us hl => match us, hl with | [_, _, _, _, _], _ => rfl
  have U_ismark : C8.Fun K "is_mark" "is_mark" s_ismark f_ismark (PySem.W.fnOf "is_mark" "is_mark" (C8.fnArgs s_ismark) (C8.fnBody s_ismark) (C8.fnScope s_ismark) .none kV_ismark dc_ismark pm_ismark an_ismark cd_ismark ct_ismark) := ⟨oc_ismark, od_ismark, .none, kV_ismark, dc_ismark, pm_ismark, an_ismark, cd_ismark, ct_ismark, sl_ismark, rfl, l_ismark, c_ismark⟩
  have F_ismark : C8.Def K mg "is_mark" s_ismark f_ismark _ := ⟨U_ismark, PySem.W.mg_of X G a_ismark, k_ismark⟩
  have b_ismark := U_ismark.binds rfl (ps := ["reader", "value"]) fun _ _ _ _ _ _ us hl => match us, hl with | [_, _], _ => rfl
  have U_xnm : C8.Fun K "__init__" "NoMark.__init__" s_xnm f_xnm (PySem.W.fnOf "__init__" "NoMark.__init__" (C8.fnArgs s_xnm) (C8.fnBody s_xnm) (C8.fnScope s_xnm) .none kV_xnm dc_xnm pm_xnm an_xnm cd_xnm ct_xnm) := ⟨oc_xnm, od_xnm, .none, kV_xnm, dc_xnm, pm_xnm, an_xnm, cd_xnm, ct_xnm, sl_xnm, rfl, l_xnm, c_xnm⟩
  have me_xnm : Meth K C_NoMark "__init__" f_xnm := ⟨a_xnm, i_xnm, k_xnm⟩
  have b_xnm := U_xnm.binds rfl (ps := ["self", "mark"]) fun _ _ _ _ _ _ us hl => match us, hl with | [_, _], _ => rfl
  have U_numbered : C8.Fun K "numbered" "numbered" s_numbered f_numbered (PySem.W.fnOf "numbered" "numbered" (C8.fnArgs s_numbered) (C8.fnBody s_numbered) (C8.fnScope s_numbered) .none kV_numbered dc_numbered pm_numbered an_numbered cd_numbered ct_numbered) := ⟨oc_numbered, od_numbered, .none, kV_numbered, dc_numbered, pm_numbered, an_numbered, cd_numbered, ct_numbered, sl_numbered, rfl, l_numbered, c_numbered⟩
  have F_numbered : C8.Def K mg "numbered" s_numbered f_numbered _ := ⟨U_numbered, PySem.W.mg_of X G a_numbered, k_numbered⟩
  have b_numbered := U_numbered.binds rfl (ps := ["things"]) fun _ _ _ _ _ _ us hl => match us, hl with | [_], _ => rfl
  have U_alike : C8.Fun K "alike_numbers" "alike_numbers" s_alike f_alike (PySem.W.fnOf "alike_numbers" "alike_numbers" (C8.fnArgs s_alike) (C8.fnBody s_alike) (C8.fnScope s_alike) .none kV_alike dc_alike pm_alike an_alike cd_alike ct_alike) := ⟨oc_alike, od_alike, .none, kV_alike, dc_alike, pm_alike, an_alike, cd_alike, ct_alike, sl_alike, rfl, l_alike, c_alike⟩
  have F_alike : C8.Def K mg "alike_numbers" s_alike f_alike _ := ⟨U_alike, PySem.W.mg_of X G a_alike, k_alike⟩
  have b_alike := U_alike.binds rfl (ps := ["table", "things"]) fun _ _ _ _ _ _ us hl => match us, hl with | [_, _], _ => rfl
  have U_until : C8.Fun K "_walked_until" "_walked_until" s_until f_until (PySem.W.fnOf "_walked_until" "_walked_until" (C8.fnArgs s_until) (C8.fnBody s_until) (C8.fnScope s_until) .none kV_until dc_until pm_until an_until cd_until ct_until) := ⟨oc_until, od_until, .none, kV_until, dc_until, pm_until, an_until, cd_until, ct_until, sl_until, rfl, l_until, c_until⟩
  have F_until : C8.Def K mg "_walked_until" s_until f_until _ := ⟨U_until, PySem.W.mg_of X G a_until, k_until⟩
  have b_until := U_until.binds rfl (ps := ["signs", "begin", "lead", "is_last"]) fun _ _ _ _ _ _ us hl => match us, hl with | [_, _, _, _], _ => rfl
  have U_least : C8.Fun K "least_way" "least_way" s_least f_least (PySem.W.fnOf "least_way" "least_way" (C8.fnArgs s_least) (C8.fnBody s_least) (C8.fnScope s_least) .none kV_least dc_least pm_least an_least cd_least ct_least) := ⟨oc_least, od_least, .none, kV_least, dc_least, pm_least, an_least, cd_least, ct_least, sl_least, rfl, l_least, c_least⟩
  have F_least : C8.Def K mg "least_way" s_least f_least _ := ⟨U_least, PySem.W.mg_of X G a_least, k_least⟩
  have b_least := U_least.binds rfl (ps := ["signs", "begin", "lead", "is_good"]) fun _ _ _ _ _ _ us hl => match us, hl with | [_, _, _, _], _ => rfl
  have U_islot : C8.Fun K "is_lot" "is_lot" s_islot f_islot (PySem.W.fnOf "is_lot" "is_lot" (C8.fnArgs s_islot) (C8.fnBody s_islot) (C8.fnScope s_islot) .none kV_islot dc_islot pm_islot an_islot cd_islot ct_islot) := ⟨oc_islot, od_islot, .none, kV_islot, dc_islot, pm_islot, an_islot, cd_islot, ct_islot, sl_islot, rfl, l_islot, c_islot⟩
  have F_islot : C8.Def K mg "is_lot" s_islot f_islot _ := ⟨U_islot, PySem.W.mg_of X G a_islot, k_islot⟩
  have b_islot := U_islot.binds rfl (ps := ["reader", "value"]) fun _ _ _ _ _ _ us hl => match us, hl with | [_, _], _ => rfl
  have U_chlot : C8.Fun K "check_lot" "check_lot" s_chlot f_chlot (PySem.W.fnOf "check_lot" "check_lot" (C8.fnArgs s_chlot) (C8.fnBody s_chlot) (C8.fnScope s_chlot) .none kV_chlot dc_chlot pm_chlot an_chlot cd_chlot ct_chlot) := ⟨oc_chlot, od_chlot, .none, kV_chlot, dc_chlot, pm_chlot, an_chlot, cd_chlot, ct_chlot, sl_chlot, rfl, l_chlot, c_chlot⟩
  have F_chlot : C8.Def K mg "check_lot" s_chlot f_chlot _ := ⟨U_chlot, PySem.W.mg_of X G a_chlot, k_chlot⟩
  have b_chlot := U_chlot.binds rfl (ps := ["reader", "lot"]) fun _ _ _ _ _ _ us hl => match us, hl with | [_, _], _ => rfl
  have U_flags : C8.Fun K "flags_of" "flags_of" s_flags f_flags (PySem.W.fnOf "flags_of" "flags_of" (C8.fnArgs s_flags) (C8.fnBody s_flags) (C8.fnScope s_flags) .none kV_flags dc_flags pm_flags an_flags cd_flags ct_flags) := ⟨oc_flags, od_flags, .none, kV_flags, dc_flags, pm_flags, an_flags, cd_flags, ct_flags, sl_flags, rfl, l_flags, c_flags⟩
  have F_flags : C8.Def K mg "flags_of" s_flags f_flags _ := ⟨U_flags, PySem.W.mg_of X G a_flags, k_flags⟩
  have b_flags := U_flags.binds rfl (ps := ["reader", "lot"]) fun _ _ _ _ _ _ us hl => match us, hl with | [_, _], _ => rfl
  have U_parting : C8.Fun K "parting" "parting" s_parting f_parting (PySem.W.fnOf "parting" "parting" (C8.fnArgs s_parting) (C8.fnBody s_parting) (C8.fnScope s_parting) .none kV_parting dc_parting pm_parting an_parting cd_parting ct_parting) := ⟨oc_parting, od_parting, .none, kV_parting, dc_parting, pm_parting, an_parting, cd_parting, ct_parting, sl_parting, rfl, l_parting, c_parting⟩
  have F_parting : C8.Def K mg "parting" s_parting f_parting _ := ⟨U_parting, PySem.W.mg_of X G a_parting, k_parting⟩
  have b_parting := U_parting.binds rfl (ps := ["reader", "lot", "one", "other"]) fun _ _ _ _ _ _ us hl => match us, hl with | [_, _, _, _], _ => rfl
  have U_classes : C8.Fun K "classes" "classes" s_classes f_classes (PySem.W.fnOf "classes" "classes" (C8.fnArgs s_classes) (C8.fnBody s_classes) (C8.fnScope s_classes) .none kV_classes dc_classes pm_classes an_classes cd_classes ct_classes) := ⟨oc_classes, od_classes, .none, kV_classes, dc_classes, pm_classes, an_classes, cd_classes, ct_classes, sl_classes, rfl, l_classes, c_classes⟩
  have F_classes : C8.Def K mg "classes" s_classes f_classes _ := ⟨U_classes, PySem.W.mg_of X G a_classes, k_classes⟩
  have b_classes := U_classes.binds rfl (ps := ["reader", "lot"]) fun _ _ _ _ _ _ us hl => match us, hl with | [_, _], _ => rfl
  have U_groups : C8.Fun K "_groups" "_groups" s_groups f_groups (PySem.W.fnOf "_groups" "_groups" (C8.fnArgs s_groups) (C8.fnBody s_groups) (C8.fnScope s_groups) .none kV_groups dc_groups pm_groups an_groups cd_groups ct_groups) := ⟨oc_groups, od_groups, .none, kV_groups, dc_groups, pm_groups, an_groups, cd_groups, ct_groups, sl_groups, rfl, l_groups, c_groups⟩
  have F_groups : C8.Def K mg "_groups" s_groups f_groups _ := ⟨U_groups, PySem.W.mg_of X G a_groups, k_groups⟩
  have b_groups := U_groups.binds rfl (ps := ["reader", "lot"]) fun _ _ _ _ _ _ us hl => match us, hl with | [_, _], _ => rfl
  have U_pairlead : C8.Fun K "_pair_lead" "_pair_lead" s_pairlead f_pairlead (PySem.W.fnOf "_pair_lead" "_pair_lead" (C8.fnArgs s_pairlead) (C8.fnBody s_pairlead) (C8.fnScope s_pairlead) .none kV_pairlead dc_pairlead pm_pairlead an_pairlead (.ref cc_pairlead) ct_pairlead) := ⟨oc_pairlead, od_pairlead, .none, kV_pairlead, dc_pairlead, pm_pairlead, an_pairlead, (.ref cc_pairlead), ct_pairlead, sl_pairlead, rfl, l_pairlead, c_pairlead⟩
  have F_pairlead : C8.Def K mg "_pair_lead" s_pairlead f_pairlead _ := ⟨U_pairlead, PySem.W.mg_of X G a_pairlead, k_pairlead⟩
  have b_pairlead := U_pairlead.binds rfl (ps := ["one", "other"]) fun _ _ _ _ _ _ us hl => match us, hl with | [_, _], _ => rfl
  have U_partrow : C8.Fun K "_parting_row" "_parting_row" s_partrow f_partrow (PySem.W.fnOf "_parting_row" "_parting_row" (C8.fnArgs s_partrow) (C8.fnBody s_partrow) (C8.fnScope s_partrow) .none kV_partrow dc_partrow pm_partrow an_partrow (.ref cc_partrow) ct_partrow) := ⟨oc_partrow, od_partrow, .none, kV_partrow, dc_partrow, pm_partrow, an_partrow, (.ref cc_partrow), ct_partrow, sl_partrow, rfl, l_partrow, c_partrow⟩
  have F_partrow : C8.Def K mg "_parting_row" s_partrow f_partrow _ := ⟨U_partrow, PySem.W.mg_of X G a_partrow, k_partrow⟩
  have b_partrow := U_partrow.binds rfl (ps := ["one", "lot", "other", "others", "begin"]) fun _ _ _ _ _ _ us hl => match us, hl with | [_, _, _, _, _], _ => rfl
  have U_made : C8.Fun K "_law_made" "_law_made" s_made f_made (PySem.W.fnOf "_law_made" "_law_made" (C8.fnArgs s_made) (C8.fnBody s_made) (C8.fnScope s_made) .none kV_made dc_made pm_made an_made cd_made ct_made) := ⟨oc_made, od_made, .none, kV_made, dc_made, pm_made, an_made, cd_made, ct_made, sl_made, rfl, l_made, c_made⟩
  have F_made : C8.Def K mg "_law_made" s_made f_made _ := ⟨U_made, PySem.W.mg_of X G a_made, k_made⟩
  have b_made := U_made.binds rfl (ps := ["told"]) fun _ _ _ _ _ _ us hl => match us, hl with | [_], _ => rfl
  have U_led : C8.Fun K "_law_led" "_law_led" s_led f_led (PySem.W.fnOf "_law_led" "_law_led" (C8.fnArgs s_led) (C8.fnBody s_led) (C8.fnScope s_led) .none kV_led dc_led pm_led an_led cd_led ct_led) := ⟨oc_led, od_led, .none, kV_led, dc_led, pm_led, an_led, cd_led, ct_led, sl_led, rfl, l_led, c_led⟩
  have F_led : C8.Def K mg "_law_led" s_led f_led _ := ⟨U_led, PySem.W.mg_of X G a_led, k_led⟩
  have b_led := U_led.binds rfl (ps := ["told", "mark", "row"]) fun _ _ _ _ _ _ us hl => match us, hl with | [_, _, _], _ => rfl
  have U_rows : C8.Fun K "_law_rows" "_law_rows" s_rows f_rows (PySem.W.fnOf "_law_rows" "_law_rows" (C8.fnArgs s_rows) (C8.fnBody s_rows) (C8.fnScope s_rows) .none kV_rows dc_rows pm_rows an_rows cd_rows ct_rows) := ⟨oc_rows, od_rows, .none, kV_rows, dc_rows, pm_rows, an_rows, cd_rows, ct_rows, sl_rows, rfl, l_rows, c_rows⟩
  have F_rows : C8.Def K mg "_law_rows" s_rows f_rows _ := ⟨U_rows, PySem.W.mg_of X G a_rows, k_rows⟩
  have b_rows := U_rows.binds rfl (ps := ["signs", "most"]) fun _ _ _ _ _ _ us hl => match us, hl with | [_, _], _ => rfl
  have U_lot : C8.Fun K "_law_lot" "_law_lot" s_lot f_lot (PySem.W.fnOf "_law_lot" "_law_lot" (C8.fnArgs s_lot) (C8.fnBody s_lot) (C8.fnScope s_lot) .none kV_lot dc_lot pm_lot an_lot cd_lot ct_lot) := ⟨oc_lot, od_lot, .none, kV_lot, dc_lot, pm_lot, an_lot, cd_lot, ct_lot, sl_lot, rfl, l_lot, c_lot⟩
  have F_lot : C8.Def K mg "_law_lot" s_lot f_lot _ := ⟨U_lot, PySem.W.mg_of X G a_lot, k_lot⟩
  have b_lot := U_lot.binds rfl (ps := ["box", "told"]) fun _ _ _ _ _ _ us hl => match us, hl with | [_, _], _ => rfl
  have U_lparted : C8.Fun K "_law_parted" "_law_parted" s_lparted f_lparted (PySem.W.fnOf "_law_parted" "_law_parted" (C8.fnArgs s_lparted) (C8.fnBody s_lparted) (C8.fnScope s_lparted) .none kV_lparted dc_lparted pm_lparted an_lparted cd_lparted ct_lparted) := ⟨oc_lparted, od_lparted, .none, kV_lparted, dc_lparted, pm_lparted, an_lparted, cd_lparted, ct_lparted, sl_lparted, rfl, l_lparted, c_lparted⟩
  have F_lparted : C8.Def K mg "_law_parted" s_lparted f_lparted _ := ⟨U_lparted, PySem.W.mg_of X G a_lparted, k_lparted⟩
  have b_lparted := U_lparted.binds rfl (ps := ["told", "lot", "one", "other"]) fun _ _ _ _ _ _ us hl => match us, hl with | [_, _, _, _], _ => rfl
  have U_lclasses : C8.Fun K "_law_classes" "_law_classes" s_lclasses f_lclasses (PySem.W.fnOf "_law_classes" "_law_classes" (C8.fnArgs s_lclasses) (C8.fnBody s_lclasses) (C8.fnScope s_lclasses) .none kV_lclasses dc_lclasses pm_lclasses an_lclasses cd_lclasses ct_lclasses) := ⟨oc_lclasses, od_lclasses, .none, kV_lclasses, dc_lclasses, pm_lclasses, an_lclasses, cd_lclasses, ct_lclasses, sl_lclasses, rfl, l_lclasses, c_lclasses⟩
  have F_lclasses : C8.Def K mg "_law_classes" s_lclasses f_lclasses _ := ⟨U_lclasses, PySem.W.mg_of X G a_lclasses, k_lclasses⟩
  have b_lclasses := U_lclasses.binds rfl (ps := ["told", "lot"]) fun _ _ _ _ _ _ us hl => match us, hl with | [_, _], _ => rfl
  have U_heard : C8.Fun K "_law_heard" "_law_heard" s_heard f_heard (PySem.W.fnOf "_law_heard" "_law_heard" (C8.fnArgs s_heard) (C8.fnBody s_heard) (C8.fnScope s_heard) .none kV_heard dc_heard pm_heard an_heard cd_heard ct_heard) := ⟨oc_heard, od_heard, .none, kV_heard, dc_heard, pm_heard, an_heard, cd_heard, ct_heard, sl_heard, rfl, l_heard, c_heard⟩
  have F_heard : C8.Def K mg "_law_heard" s_heard f_heard _ := ⟨U_heard, PySem.W.mg_of X G a_heard, k_heard⟩
  have b_heard := U_heard.binds rfl (ps := ["made", "lot", "one", "other"]) fun _ _ _ _ _ _ us hl => match us, hl with | [_, _, _, _], _ => rfl
  have U_refused : C8.Fun K "_law_refused_right" "_law_refused_right" s_refused f_refused (PySem.W.fnOf "_law_refused_right" "_law_refused_right" (C8.fnArgs s_refused) (C8.fnBody s_refused) (C8.fnScope s_refused) .none kV_refused dc_refused pm_refused an_refused cd_refused ct_refused) := ⟨oc_refused, od_refused, .none, kV_refused, dc_refused, pm_refused, an_refused, cd_refused, ct_refused, sl_refused, rfl, l_refused, c_refused⟩
  have F_refused : C8.Def K mg "_law_refused_right" s_refused f_refused _ := ⟨U_refused, PySem.W.mg_of X G a_refused, k_refused⟩
  have b_refused := U_refused.binds rfl (ps := ["made", "told"]) fun _ _ _ _ _ _ us hl => match us, hl with | [_, _], _ => rfl
  have U_law : C8.Fun K "law" "law" s_law fa (PySem.W.fnOf "law" "law" (C8.fnArgs s_law) (C8.fnBody s_law) (C8.fnScope s_law) .none kV_law dc_law pm_law an_law cd_law ct_law) := ⟨oc_law, od_law, .none, kV_law, dc_law, pm_law, an_law, cd_law, ct_law, sl_law, rfl, l_law, c_law⟩
  have F_law : C8.Def K mg "law" s_law fa _ := ⟨U_law, PySem.W.mg_of X G a_law, k_law⟩
  have b_law := U_law.binds rfl (ps := ["script"]) fun _ _ _ _ _ _ us hl => match us, hl with | [_], _ => rfl
  have Cl_Reader : Cls K C_Reader := ⟨pg_Reader, hd_Reader, po_Reader, sa_Reader⟩
  have mg_Reader := PySem.W.mg_of X G g_Reader
  have M_Reader : Mk K C_Reader f_init := ⟨mk_Reader, a_init, i_init, kc_Reader⟩
  have I_Reader : C8.InsC K C_Reader := ⟨Cl_Reader, ha_Reader, hn_Reader, tk_Reader, hm_Reader, if_pos (beq_self_eq_true _)⟩
  have tt_pairlead : PySem.W.tabIn K "_pair_lead" = some (cc_pairlead, PP_pairlead) := by simp only [PySem.W.tabIn, a_pairlead, l_pairlead, PySem.W.fnOf, lc_pairlead, pv_pairlead]
  have tt_partrow : PySem.W.tabIn K "_parting_row" = some (cc_partrow, PP_partrow) := by simp only [PySem.W.tabIn, a_partrow, l_partrow, PySem.W.fnOf, lc_partrow, pv_partrow]
  obtain ⟨er_pairlead, hr_pairlead⟩ := tr_pairlead
  obtain ⟨er_partrow, hr_partrow⟩ := tr_partrow
  refine ⟨PySem.W.fnOf "law" "law" (C8.fnArgs s_law) (C8.fnBody s_law) (C8.fnScope s_law) .none kV_law dc_law pm_law an_law cd_law ct_law, [(cc_pairlead, PP_pairlead), (cc_partrow, PP_partrow)], fun p hp => ?_, fun s v => .of_eq rfl, fun base hKb hNb hTB => ?_⟩
  · rcases List.mem_cons.mp hp with rfl | hp
    · exact ⟨⟨_, _, tt_pairlead, hr_pairlead⟩, tn_pairlead⟩
    rw [List.mem_singleton.mp hp]; exact ⟨⟨_, _, tt_partrow, hr_partrow⟩, tn_partrow⟩
  have TB_pairlead : LamX.TabB base mg cc_pairlead PP_pairlead := hTB (cc_pairlead, PP_pairlead) (by simp)
  have TB_partrow : LamX.TabB base mg cc_partrow PP_partrow := hTB (cc_partrow, PP_partrow) (by simp)
  have CH : CR K C_Reader := ⟨Cl_Reader, n_Reader_signs, n_Reader_marks, n_Reader_first, n_Reader_steps, n_Reader__numbers, n_Reader__leads, n_Reader__columns⟩
  have eTT : (ttOf [(cc_pairlead, PP_pairlead), (cc_partrow, PP_partrow)]) = [(PP_pairlead, fun _ _ => ("_pair_lead.<locals>.lead" : Str)), (PP_partrow, fun _ _ => ("_parting_row.<locals>.is_parted" : Str))] := rfl
  have mA : ((PP_pairlead, fun _ _ => ("_pair_lead.<locals>.lead" : Str)) : NdefX.NTab) ∈ (ttOf [(cc_pairlead, PP_pairlead), (cc_partrow, PP_partrow)]) := by rw [eTT]; exact List.mem_cons_self
  have mB : ((PP_partrow, fun _ _ => ("_parting_row.<locals>.is_parted" : Str)) : NdefX.NTab) ∈ (ttOf [(cc_pairlead, PP_pairlead), (cc_partrow, PP_partrow)]) := by rw [eTT]; exact List.mem_cons_of_mem _ List.mem_cons_self
  have uA : ∀ p ∈ (ttOf [(cc_pairlead, PP_pairlead), (cc_partrow, PP_partrow)]), p.1 = PP_pairlead → p.2 = fun _ _ => ("_pair_lead.<locals>.lead" : Str) := fun p hp h => by
    rw [eTT] at hp
    rcases List.mem_cons.mp hp with rfl | hp
    · rfl
    · rw [List.mem_singleton.mp hp] at h; exact absurd h.symm xne
  have uB : ∀ p ∈ (ttOf [(cc_pairlead, PP_pairlead), (cc_partrow, PP_partrow)]), p.1 = PP_partrow → p.2 = fun _ _ => ("_parting_row.<locals>.is_parted" : Str) := fun p hp h => by
    rw [eTT] at hp
    rcases List.mem_cons.mp hp with rfl | hp
    · exact absurd h xne
    · rw [List.mem_singleton.mp hp]
  have c_take := ok_take (P := l.prog) (w := w) (base := base) T F_take b_take
  have c_pick := ok_pick T c_take F_pick b_pick
  have c_mixed := ok_mixed T c_take F_mixed b_mixed
  have c_signs := ok_signs T c_pick c_mixed F_signs b_signs
  have c_drawn := ok_drawn T c_take c_pick c_mixed F_drawn b_drawn
  have c_box := ok_box (P := l.prog) (w := w) (base := base) T F_box b_box
  have g_isseq := ok_isseq (P := l.prog) (w := w) (base := base) T F_isseq b_isseq
  have g_isrow := ok_isrow (P := l.prog) (w := w) (base := base) T F_isrow b_isrow
  have g_isletters := ok_isletters T mg_az g_isrow F_isletters b_isletters
  have g_issigns := ok_issigns T g_isletters F_issigns b_issigns
  have hNN : ∀ H, SqT K H N_nn (txs no10) := no_names tl_nn
  have g_isname := ok_isname T (PySem.W.mg_of X G tg_nn) hNN g_isletters F_isname b_isname
  have g_ismarks := ok_ismarks T g_isseq g_isname F_ismarks b_ismarks
  have g_istargets := ok_istargets T g_isseq F_istargets b_istargets
  have g_issteps := ok_issteps T g_isseq g_istargets F_issteps b_issteps
  have c_m_num := ok_mnum (P := l.prog) (w := w) (base := base) T CH me_m_num U_m_num b_m_num
  have c_table := ok_table T CH c_m_num F_table b_table
  have c_cols := ok_cols (P := l.prog) (w := w) (base := base) T F_cols b_cols
  have c_Reader := ok_init T CH g_issigns g_ismarks g_issteps c_table c_cols M_Reader mg_Reader U_init b_init
  have c_made := ok_made T CH mg_Reader c_Reader F_made b_made
  have c_isseqY := ok_isseqY (P := l.prog) (w := w) (base := base) T F_isseq b_isseq
  have c_ismarkD := ok_ismarkD (P := l.prog) (w := w) (base := base) T CH F_ismark b_ismark
  have c_islot := ok_islot T CH c_isseqY c_ismarkD F_islot b_islot
  have x_InvalidLot_ : XC K C_InvalidLot := XC.ve xq_InvalidLot xd_InvalidLot xs_InvalidLot xa_InvalidLot xn_InvalidLot xb_InvalidLot xt_InvalidLot xk_InvalidLot xc_InvalidLot hn_Reader tk_Reader xm_InvalidLot
  have x_NoMark_ : XC K C_NoMark := XC.ke xq_NoMark xd_NoMark xs_NoMark xa_NoMark xn_NoMark xb_NoMark xt_NoMark xk_NoMark xc_NoMark hn_Reader tk_Reader xm_NoMark
  have x_NM : XQ K mg "NoMark" C_NoMark := ⟨x_NoMark_, PySem.W.mg_of X G xg_NoMark⟩
  have x_IL : XN K mg "InvalidLot" C_InvalidLot := ⟨xe_InvalidLot, PySem.W.mg_of X G xg_InvalidLot, xk_InvalidLot, xb_InvalidLot, xt_InvalidLot⟩
  have x_RE : XG mg "RowError" C_RowError := ⟨PySem.W.mg_of X G xg_RowError⟩
  have c_NM := ok_xnm (P := l.prog) (w := w) (base := base) x_NM xf_NoMark a_xnm (beq_iff_eq.mp i_xnm) U_xnm b_xnm
  have c_chlot := ok_chlot T x_IL c_islot F_chlot b_chlot
  have c_flags := ok_flags (P := l.prog) (w := w) (base := base) T CH F_flags b_flags
  have c_num := ok_num (P := l.prog) (w := w) (base := base) T F_numbered b_numbered
  have c_alike := ok_alike T c_num F_alike b_alike
  have c_groups := ok_groups T c_table c_flags c_alike F_groups b_groups
  have c_classes := ok_classes T CH c_chlot c_groups F_classes b_classes
  have up := fun cl ws clE wsE sp base' => up_leastP (P := l.prog) (w := w) T F_until b_until F_least b_least cl ws clE wsE sp base'
  have c_pairlead := ok_pairlead (TT := (ttOf [(cc_pairlead, PP_pairlead), (cc_partrow, PP_partrow)])) T TB_pairlead mA rfl uA c_table F_pairlead rfl b_pairlead
  have c_partrow := ok_partrow (TT := (ttOf [(cc_pairlead, PP_pairlead), (cc_partrow, PP_partrow)])) T CH TB_partrow mB rfl uB c_flags c_pairlead F_least up F_partrow rfl b_partrow
  have c_parting := ok_parting T CH c_NM c_chlot c_ismarkD c_m_num c_partrow F_parting b_parting
  have c_lot := ok_lot T c_take c_mixed F_lot b_lot
  have c_led := ok_led (P := l.prog) (w := w) (base := base) T F_led b_led
  have c_rows := ok_rows (P := l.prog) (w := w) (base := base) T F_rows b_rows
  have c_lparted := ok_lparted (K := K) T c_rows c_led F_lparted b_lparted
  have c_lclasses := ok_lclasses T c_lparted F_lclasses b_lclasses
  have c_heard := ok_heard T c_parting x_NM xf_NoMark x_RE x_IL x_InvalidLot_ xu_NoMark xu_InvalidLot xu_nl xk_lr F_heard b_heard
  have c_refused := ok_refused T I_Reader (kitAny_cons (b := false) xk_rl (fun _ => kitAny_cons (b := false) xk_rt (fun _ => rfl) (fun h => nomatch h)) (fun h => nomatch h)) c_heard F_refused b_refused
  exact ok_law T c_box c_signs c_drawn c_made c_pick c_lot c_parting c_lparted c_classes c_lclasses c_refused F_law
theorem walk {l : PySem.W.OpenLaw} {q : Program} {loose : List Str} {XP : (Str → Option Value) → Heap → Prop} {YP : World → Heap → Prop} {d : DefRec} {K : Params → PySem.W.Frag} (hn : l.most = some 63) (hdf : d.params.defaults = [])
    (hY : ∀ (w : World) (h : Heap), YP w h → (K w.params).In h)
    (F : ∀ (w : World) (mg : Str → Option Value) (fa : Addr) (h : Heap), (K w.params).In h → h.Ns mainGlobals mg → mg d.name = some (.ref fa) →
      ∃ (fd : FuncData) (tt : List (Addr × Addr)), (∀ p ∈ tt, (∃ (nm : Str) (e : DefRec), PySem.W.tabIn (K w.params) nm = some p ∧ (PyProof.Rows.recsOf q).find? (fun e => e.name == nm) = some e) ∧ (K w.params).lookup p.2 = none) ∧ (∀ (s : Shared) (u : Value), BindsTo s fd ⟨[u], []⟩ [("script", u)]) ∧ ∀ base : Heap, (K w.params).In base → base.Ns mainGlobals mg → (∀ p ∈ tt, LamX.TabB base mg p.1 p.2) → FnG l.prog w (K w.params) mg base 8 fa fd ["script"] (spLaw (ttOf tt) (K w.params))) :
    PySem.W.WalkO q loose XP YP l.row.toRowW d [] (fun f vs => PySem.call f vs) :=
  walkGT (n := 63) (k := 8) (x := "script") (sp := fun K tt => spLaw (ttOf tt) K) hn (by decide) hdf ⟨rfl, by decide, by decide⟩ hY F fun K tt H a ns hl ht hS => ⟨a, ns, rfl, hS, hl, fun p hp => by
    obtain ⟨e, he, rfl⟩ := List.mem_map.mp hp
    exact NdefX.TabN.nil (ht e.1 (List.of_mem_zip he).1), fun _ => rfl⟩
end Toy
open PySem PySem.W PyProof.Rows in
set_option maxRecDepth 100000 in
set_option maxHeartbeats 0 in
theorem PySem.Challenge.cw_allrows_k14_alike_marks_holds : PySem.Challenge.rw_allrows_k14_alike_marks.Holds := by
  w_on; o_law; k_head; (case hw => w_witness2)
  k_fill
  refine Toy.walk (l := PySem.Challenge.rw_allrows_k14_alike_marks) rfl rfl (fun w h Y => Y.1) ?F
  case F =>
    intro w mg fa h KX G hmg
    refine' Toy.all_mk KX G hmg ?tg_nn ?tl_nn ?tr_pairlead ?tr_partrow ?q_az ?g_Reader ?pg_Reader ?hd_Reader ?po_Reader ?sa_Reader ?kc_Reader ?n_Reader_signs ?n_Reader_marks ?n_Reader_first ?n_Reader_steps ?n_Reader__numbers ?n_Reader__leads ?n_Reader__columns ?mk_Reader ?ha_Reader ?hn_Reader ?tk_Reader ?hm_Reader ?xg_InvalidLot ?xq_InvalidLot ?xd_InvalidLot ?xs_InvalidLot ?xa_InvalidLot ?xn_InvalidLot ?xb_InvalidLot ?xt_InvalidLot ?xk_InvalidLot ?xc_InvalidLot ?xm_InvalidLot ?xu_InvalidLot ?xg_NoMark ?xq_NoMark ?xd_NoMark ?xs_NoMark ?xa_NoMark ?xn_NoMark ?xb_NoMark ?xt_NoMark ?xk_NoMark ?xc_NoMark ?xm_NoMark ?xu_NoMark ?xe_InvalidLot ?xg_RowError ?xf_NoMark ?xu_nl ?xk_lr ?xk_rl ?xk_rt ?a_take ?l_take ?c_take ?k_take ?a_pick ?l_pick ?c_pick ?k_pick ?a_mixed ?l_mixed ?c_mixed ?k_mixed ?a_signs ?l_signs ?c_signs ?k_signs ?a_drawn ?l_drawn ?c_drawn ?k_drawn ?a_box ?l_box ?c_box ?k_box ?a_isseq ?l_isseq ?c_isseq ?k_isseq ?a_isrow ?l_isrow ?c_isrow ?k_isrow ?a_isletters ?l_isletters ?c_isletters ?k_isletters ?a_issigns ?l_issigns ?c_issigns ?k_issigns ?a_isname ?l_isname ?c_isname ?k_isname ?a_ismarks ?l_ismarks ?c_ismarks ?k_ismarks ?a_istargets ?l_istargets ?c_istargets ?k_istargets ?a_issteps ?l_issteps ?c_issteps ?k_issteps ?a_m_num ?i_m_num ?l_m_num ?c_m_num ?k_m_num ?a_table ?l_table ?c_table ?k_table ?a_cols ?l_cols ?c_cols ?k_cols ?a_init ?i_init ?l_init ?c_init ?k_init ?a_ismark ?l_ismark ?c_ismark ?k_ismark ?a_xnm ?i_xnm ?l_xnm ?c_xnm ?k_xnm ?a_numbered ?l_numbered ?c_numbered ?k_numbered ?a_alike ?l_alike ?c_alike ?k_alike ?a_until ?l_until ?c_until ?k_until ?a_least ?l_least ?c_least ?k_least ?a_islot ?l_islot ?c_islot ?k_islot ?a_chlot ?l_chlot ?c_chlot ?k_chlot ?a_flags ?l_flags ?c_flags ?k_flags ?a_parting ?l_parting ?c_parting ?k_parting ?a_classes ?l_classes ?c_classes ?k_classes ?a_groups ?l_groups ?c_groups ?k_groups ?a_pairlead ?l_pairlead ?lc_pairlead ?pv_pairlead ?tn_pairlead ?c_pairlead ?k_pairlead ?a_partrow ?l_partrow ?lc_partrow ?pv_partrow ?tn_partrow ?c_partrow ?k_partrow ?a_made ?l_made ?c_made ?k_made ?a_led ?l_led ?c_led ?k_led ?a_rows ?l_rows ?c_rows ?k_rows ?a_lot ?l_lot ?c_lot ?k_lot ?a_lparted ?l_lparted ?c_lparted ?k_lparted ?a_lclasses ?l_lclasses ?c_lclasses ?k_lclasses ?a_heard ?l_heard ?c_heard ?k_heard ?a_refused ?l_refused ?c_refused ?k_refused ?a_law ?l_law ?c_law ?k_law ?xne ?z_int ?z_len ?z_abs ?z_str ?z_list ?z_tuple ?z_dict ?z_set ?z_isinstance ?z_all ?z_zip ?z_enumerate ?z_range ?z_max ?z_min ?z_sorted ?z_repr
    (case tg_nn => k_is)
    (case tl_nn => k_is)
    (case tr_pairlead => exact ⟨_, rfl⟩)
    (case tr_partrow => exact ⟨_, rfl⟩)
    (case q_az => k_is)
    (case g_Reader => k_is)
    (case pg_Reader => k_is)
    (case hd_Reader => k_is)
    (case po_Reader => k_is)
    (case sa_Reader => k_is)
    (case kc_Reader => k_is)
    (case n_Reader_signs => k_is)
    (case n_Reader_marks => k_is)
    (case n_Reader_first => k_is)
    (case n_Reader_steps => k_is)
    (case n_Reader__numbers => k_is)
    (case n_Reader__leads => k_is)
    (case n_Reader__columns => k_is)
    (case mk_Reader => k_is)
    (case ha_Reader => k_is)
    (case hn_Reader => k_is)
    (case tk_Reader => k_is)
    (case hm_Reader => k_is)
    (case xg_InvalidLot => k_is)
    (case xq_InvalidLot => kx_is)
    (case xd_InvalidLot => k_is)
    (case xs_InvalidLot => k_is)
    (case xa_InvalidLot => k_is)
    (case xn_InvalidLot => k_is)
    (case xb_InvalidLot => k_is)
    (case xt_InvalidLot => k_is)
    (case xk_InvalidLot => k_is)
    (case xc_InvalidLot => k_is)
    (case xm_InvalidLot => k_is)
    (case xu_InvalidLot => k_is)
    (case xg_NoMark => k_is)
    (case xq_NoMark => kx_is)
    (case xd_NoMark => k_is)
    (case xs_NoMark => k_is)
    (case xa_NoMark => k_is)
    (case xn_NoMark => k_is)
    (case xb_NoMark => k_is)
    (case xt_NoMark => k_is)
    (case xk_NoMark => k_is)
    (case xc_NoMark => k_is)
    (case xm_NoMark => k_is)
    (case xu_NoMark => k_is)
    (case xe_InvalidLot => k_exc)
    (case xg_RowError => k_is)
    (case xf_NoMark => k_is)
    (case xu_nl => k_is)
    (case xk_lr => kit_is)
    (case xk_rl => kit_is)
    (case xk_rt => kit_is)
    (case a_take => k_is)
    (case l_take => k_is)
    (case c_take => k_is)
    (case k_take => k_is)
    (case a_pick => k_is)
    (case l_pick => k_is)
    (case c_pick => k_is)
    (case k_pick => k_is)
    (case a_mixed => k_is)
    (case l_mixed => k_is)
    (case c_mixed => k_is)
    (case k_mixed => k_is)
    (case a_signs => k_is)
    (case l_signs => k_is)
    (case c_signs => k_is)
    (case k_signs => k_is)
    (case a_drawn => k_is)
    (case l_drawn => k_is)
    (case c_drawn => k_is)
    (case k_drawn => k_is)
    (case a_box => k_is)
    (case l_box => k_is)
    (case c_box => k_is)
    (case k_box => k_is)
    (case a_isseq => k_is)
    (case l_isseq => k_is)
    (case c_isseq => k_is)
    (case k_isseq => k_is)
    (case a_isrow => k_is)
    (case l_isrow => k_is)
    (case c_isrow => k_is)
    (case k_isrow => k_is)
    (case a_isletters => k_is)
    (case l_isletters => k_is)
    (case c_isletters => k_is)
    (case k_isletters => k_is)
    (case a_issigns => k_is)
    (case l_issigns => k_is)
    (case c_issigns => k_is)
    (case k_issigns => k_is)
    (case a_isname => k_is)
    (case l_isname => k_is)
    (case c_isname => k_is)
    (case k_isname => k_is)
    (case a_ismarks => k_is)
    (case l_ismarks => k_is)
    (case c_ismarks => k_is)
    (case k_ismarks => k_is)
    (case a_istargets => k_is)
    (case l_istargets => k_is)
    (case c_istargets => k_is)
    (case k_istargets => k_is)
    (case a_issteps => k_is)
    (case l_issteps => k_is)
    (case c_issteps => k_is)
    (case k_issteps => k_is)
    (case a_m_num => k_is)
    (case i_m_num => k_is)
    (case l_m_num => k_is)
    (case c_m_num => k_is)
    (case k_m_num => k_is)
    (case a_table => k_is)
    (case l_table => k_is)
    (case c_table => k_is)
    (case k_table => k_is)
    (case a_cols => k_is)
    (case l_cols => k_is)
    (case c_cols => k_is)
    (case k_cols => k_is)
    (case a_init => k_is)
    (case i_init => k_is)
    (case l_init => k_is)
    (case c_init => k_is)
    (case k_init => k_is)
    (case a_ismark => k_is)
    (case l_ismark => k_is)
    (case c_ismark => k_is)
    (case k_ismark => k_is)
    (case a_xnm => k_is)
    (case i_xnm => k_is)
    (case l_xnm => k_is)
    (case c_xnm => k_is)
    (case k_xnm => k_is)
    (case a_numbered => k_is)
    (case l_numbered => k_is)
    (case c_numbered => k_is)
    (case k_numbered => k_is)
    (case a_alike => k_is)
    (case l_alike => k_is)
    (case c_alike => k_is)
    (case k_alike => k_is)
    (case a_until => k_is)
    (case l_until => k_is)
    (case c_until => k_is)
    (case k_until => k_is)
    (case a_least => k_is)
    (case l_least => k_is)
    (case c_least => k_is)
    (case k_least => k_is)
    (case a_islot => k_is)
    (case l_islot => k_is)
    (case c_islot => k_is)
    (case k_islot => k_is)
    (case a_chlot => k_is)
    (case l_chlot => k_is)
    (case c_chlot => k_is)
    (case k_chlot => k_is)
    (case a_flags => k_is)
    (case l_flags => k_is)
    (case c_flags => k_is)
    (case k_flags => k_is)
    (case a_parting => k_is)
    (case l_parting => k_is)
    (case c_parting => k_is)
    (case k_parting => k_is)
    (case a_classes => k_is)
    (case l_classes => k_is)
    (case c_classes => k_is)
    (case k_classes => k_is)
    (case a_groups => k_is)
    (case l_groups => k_is)
    (case c_groups => k_is)
    (case k_groups => k_is)
    (case a_pairlead => k_is)
    (case l_pairlead => k_is)
    (case lc_pairlead => k_is)
    (case pv_pairlead => rfl)
    (case tn_pairlead => kernel_rfl)
    (case c_pairlead => k_is)
    (case k_pairlead => k_is)
    (case a_partrow => k_is)
    (case l_partrow => k_is)
    (case lc_partrow => k_is)
    (case pv_partrow => rfl)
    (case tn_partrow => kernel_rfl)
    (case c_partrow => k_is)
    (case k_partrow => k_is)
    (case a_made => k_is)
    (case l_made => k_is)
    (case c_made => k_is)
    (case k_made => k_is)
    (case a_led => k_is)
    (case l_led => k_is)
    (case c_led => k_is)
    (case k_led => k_is)
    (case a_rows => k_is)
    (case l_rows => k_is)
    (case c_rows => k_is)
    (case k_rows => k_is)
    (case a_lot => k_is)
    (case l_lot => k_is)
    (case c_lot => k_is)
    (case k_lot => k_is)
    (case a_lparted => k_is)
    (case l_lparted => k_is)
    (case c_lparted => k_is)
    (case k_lparted => k_is)
    (case a_lclasses => k_is)
    (case l_lclasses => k_is)
    (case c_lclasses => k_is)
    (case k_lclasses => k_is)
    (case a_heard => k_is)
    (case l_heard => k_is)
    (case c_heard => k_is)
    (case k_heard => k_is)
    (case a_refused => k_is)
    (case l_refused => k_is)
    (case c_refused => k_is)
    (case k_refused => k_is)
    (case a_law => k_is)
    (case l_law => k_is)
    (case c_law => k_is)
    (case k_law => k_is)
    (case xne => decide)
    (case z_int => k_is)
    (case z_len => k_is)
    (case z_abs => k_is)
    (case z_str => k_is)
    (case z_list => k_is)
    (case z_tuple => k_is)
    (case z_dict => k_is)
    (case z_set => k_is)
    (case z_isinstance => k_is)
    (case z_all => k_is)
    (case z_zip => k_is)
    (case z_enumerate => k_is)
    (case z_range => k_is)
    (case z_max => k_is)
    (case z_min => k_is)
    (case z_sorted => k_is)
    (case z_repr => k_is)
