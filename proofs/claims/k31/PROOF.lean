import PyProof.Rows.All
import Wide.All
import OpenK.AllK
import Wide.FinOn
import Lean
import PyProof.EqAt
import PyProof.EqKinds
import PyProof.TupleCall
import PyProof.DictItems
import PyProof.Rows.SortShell
import PyProof.ListRange
import PyProof.ZipIter
import KE.KDictList
import PyProof.Rows.SetFrom
import PyProof.Rows.SortStr
import PyProof.CollectStr
import PyProof.Rows.SortWalk
import PyProof.Draws
import PyProof.TupleIter
import PyProof.DictIter
import PySem.Challenge.RW_codemill_k31_whole_must
local macro_rules | `(tactic| trivial) => `(tactic| (dsimp only; decide +kernel))
local macro_rules | `(tactic| trivial) => `(tactic| decide +kernel)
abbrev ka:=@Bool.false_ne_true
abbrev kb:=@Option.bind_some
abbrev kc:=@Nat.le_refl
abbrev ke:=@List.getElem?_eq_some_iff
abbrev kf:=@decide_eq_false
abbrev kg:=@decide_eq_true
abbrev kh:=@List.length_map
abbrev ki:=@List.length_append
abbrev kj:=@PySem.W.mg_of
abbrev kl:=@List.mem_singleton
abbrev km:=@List.not_mem_nil
abbrev kn:=@Nat.le_trans
abbrev ko:=PySem.W.Frag
abbrev kq:=@if_neg
abbrev kr:=@if_pos
abbrev ku:=@Option.some.inj
abbrev kw:=@of_decide_eq_true
abbrev ky:=@List.mem_cons
abbrev kz:=@List.size_toArray
abbrev kC:=@List.length_singleton
abbrev kD:=@List.mem_of_getElem?
abbrev kE:=@List.dropLast_concat
abbrev kG:=@List.map_append
abbrev kH:=@List.getElem?_eq_getElem
abbrev kI:=@Nat.lt_of_lt_of_le
abbrev kJ:=@List.mem_append_right
abbrev kK:=@List.mem_append_left
abbrev kL:=@List.length_cons
abbrev kM:=@List.mem_cons_self
abbrev kN:=@List.mem_cons_of_mem
abbrev kO:=@List.mem_append
abbrev kP:=@List.map_cons
abbrev kQ:=@List.append_nil
abbrev kR:=@List.append_assoc
abbrev kS:=@Nat.le_of_eq
abbrev kU:=@Int.eq_ofNat_of_zero_le
abbrev kW:=@Int.toNat_natCast
abbrev kX:=@Nat.lt_succ_self
abbrev kZ:=@Bool.and_eq_true
abbrev ya:=@decide_eq_true_eq
abbrev yb:=@List.mem_map
abbrev yc:=@List.getElem?_append_left
abbrev yd:=@List.getElem?_append_right
set_option genInjectivity true
set_option genSizeOf false
set_option Elab.async false
set_option linter.all false
set_option maxRecDepth 100000
theorem aR (h:True=True:=by rfl) (k:(0:Nat)=0:=by decide):True:=trivial
namespace L2
open PySem PySem.Spec PyProof.Rows
abbrev Key:=Sum Int Str
noncomputable def z0v:Key→Value→Bool
 | .inl k,v=>Value.isInt k v
 | .inr x,v=>Value.isStrOf x v
noncomputable def keyH (w:World):Key→Int
 | .inl k=>hashInt k
 | .inr x=>hashStr w x
theorem qh:∀{k:Key} {v:Value},z0v k v=true→(∃i t,k=Sum.inl i∧v=Value.int i t)∨(∃x t,k=Sum.inr x∧v=Value.str x t)
 | .inl i,v,h=>by
  obtain ⟨t,e⟩:=Value.isInt_shape (k:=i) (v:=v) h
  exact .inl ⟨i,t,rfl,e⟩
 | .inr x,v,h=>by
  obtain ⟨t,e⟩:=Value.isStrOf_shape (x:=x) (v:=v) h
  exact .inr ⟨x,t,rfl,e⟩
theorem z35 (i:Int) (t:Tok):z0v (.inl i) (.int i t)=true:=by simp [z0v,Value.isInt]
theorem z34 (x:Str) (t:Tok):z0v (.inr x) (.str x t)=true:=by simp [z0v,Value.isStrOf]
theorem z7c (a b:Int):decide ((Sum.inl a:Key)=Sum.inl b)=(a == b):=by
 by_cases e:a=b
 ·subst e;simp
 ·have h:¬(Sum.inl a:Key)=Sum.inl b:=fun q=>e (Sum.inl.inj q)
  rw [kf h]
  exact (beq_eq_false_iff_ne.mpr e).symm
theorem z79 (a b:Str):decide ((Sum.inr a:Key)=Sum.inr b)=decide (a=b):=by
 by_cases e:a=b
 ·subst e;simp
 ·have h:¬(Sum.inr a:Key)=Sum.inr b:=fun q=>e (Sum.inr.inj q)
  rw [kf h,kf e]
theorem z7b (a:Int) (b:Str):decide ((Sum.inl a:Key)=Sum.inr b)=false:=kf (fun q=>nomatch q)
theorem z7a (a:Str) (b:Int):decide ((Sum.inr a:Key)=Sum.inl b)=false:=kf (fun q=>nomatch q)
noncomputable def zI (prog:Program) (w:World):PySem.KeyKind prog w Key where
 is:=z0v
 hash:=keyH w
 inj:=fun v a b ha hb=>by
  rcases qh ha with ⟨i,t,rfl,rfl⟩ | ⟨x,t,rfl,rfl⟩
  ·rcases qh hb with ⟨j,u,rfl,e⟩ | ⟨y,u,rfl,e⟩
   ·injection e with e1 _;rw [e1]
   ·exact nomatch e
  ·rcases qh hb with ⟨j,u,rfl,e⟩ | ⟨y,u,rfl,e⟩
   ·exact nomatch e
   ·injection e with e1 _;rw [e1]
 byValue:=fun k v h=>by
  rcases qh h with ⟨i,t,rfl,rfl⟩ | ⟨x,t,rfl,rfl⟩ <;> rfl
 pyHash:=fun hv h=>by
  rcases qh hv with ⟨i,t,rfl,rfl⟩ | ⟨x,t,rfl,rfl⟩
  ·exact wpAny_pyHash_int h
  ·exact wpAny_pyHash_str h
 eqBool:=fun hu hv h=>by
  rcases qh hu with ⟨i,t,rfl,rfl⟩ | ⟨x,t,rfl,rfl⟩
  ·rcases qh hv with ⟨j,u,rfl,rfl⟩ | ⟨y,u,rfl,rfl⟩
   ·rw [z7c] at h;exact wpAny_eqBool_int h
   ·rw [z7b] at h;exact SeqAt.EqAt.int_str i t y u _ _ _ _ h
  ·rcases qh hv with ⟨j,u,rfl,rfl⟩ | ⟨y,u,rfl,rfl⟩
   ·rw [z7a] at h;exact SeqAt.EqAt.str_int x t j u _ _ _ _ h
   ·rw [z79] at h;exact wpAny_eqBool_str h
 «strs»:=fun k x t v h=>by
  rcases qh h with ⟨i,u,rfl,e⟩ | ⟨y,u,rfl,e⟩
  ·exact nomatch e
  ·injection e with e1 _
   subst e1
   cases v <;> rfl
theorem z0t (prog:Program) (w:World) (i:Int) (t:Tok):(zI prog w).is (.inl i) (.int i t)=true:=z35 i t
theorem z0s (prog:Program) (w:World) (x:Str) (t:Tok):(zI prog w).is (.inr x) (.str x t)=true:=z34 x t
end L2
namespace L2
open PySem PySem.Spec PyProof.Rows
inductive V where
 | non | bl (b:Bool) | int (i:Int) | str (x:Str) | byt (b:Array UInt8) | flt (b:UInt64) | ref (a:Addr) | ty (n:String)
 deriving DecidableEq
def RelV:V→Value→Prop
 | .non,u=>u=Value.none
 | .bl b,u=>u=Value.bool b
 | .int i,u=>∃t,u=Value.int i t
 | .str x,u=>∃t,u=Value.str x t
 | .byt b,u=>∃t,u=Value.bytes b t
 | .flt b,u=>∃t,u=Value.float b t
 | .ref a,u=>u=Value.ref a
 | .ty n,u=>u=Value.type n
abbrev Vals:List V→List Value→Prop:=Paired RelV
theorem Vals.length {xs:List V} {us:List Value} (r:Vals xs us):xs.length=us.length:=Paired.length r
theorem Vals.get:∀{xs:List V} {us:List Value} {i:Nat} {x:V},Vals xs us→xs[i]?=some x→∃u,us[i]?=some u∧RelV x u
 | _,_,_,_,.nil,e=>by simp at e
 | _,_,0,_,.cons r _,e=>by simp at e;subst e;exact ⟨_,rfl,r⟩
 | _,_,i+1,x,.cons _ t,e=>by
  obtain ⟨u,h1,h2⟩:=Vals.get (i:=i) (x:=x) t (by simpa using e)
  exact ⟨u,by simpa using h1,h2⟩
theorem Vals.set {x:V} {u:Value} (r:RelV x u):∀{xs:List V} {us:List Value} (i:Nat),Vals xs us→Vals (xs.set i x) (us.set i u)
 | _,_,_,.nil=>.nil
 | _,_,0,.cons _ t=>.cons r t
 | _,_,i+1,.cons q t=>.cons q (Vals.set r i t)
theorem Vals.append:∀{xs ys:List V} {us ws:List Value},Vals xs us→Vals ys ws→Vals (xs++ys) (us++ws)
 | _,_,_,_,.nil,s=>s
 | _,_,_,_,.cons r t,s=>.cons r (Vals.append t s)
theorem Vals.take:∀{xs:List V} {us:List Value} (n:Nat),Vals xs us→Vals (xs.take n) (us.take n)
 | _,_,0,_=>.nil
 | _,_,_+1,.nil=>.nil
 | _,_,n+1,.cons r t=>.cons r (Vals.take n t)
theorem Vals.drop:∀{xs:List V} {us:List Value} (n:Nat),Vals xs us→Vals (xs.drop n) (us.drop n)
 | _,_,0,r=>r
 | _,_,_+1,.nil=>.nil
 | _,_,n+1,.cons _ t=>Vals.drop n t
def RelO:Option V→Option Value→Prop
 | some v,some u=>RelV v u
 | none,none=>True
 | _,_=>False
def KV {κ:Type}:List (κ × V)→List (κ × Value)→Prop:=Paired fun (p:κ × V) (q:κ × Value)=>p.1=q.1∧RelV p.2 q.2
noncomputable def kV:Key→V
 | .inl i=>.int i
 | .inr x=>.str x
inductive HO where
 | lst (xs:List V)
 | tup (xs:List V)
 | dK (kvs:List (Key × V)) | dT (kvs:List (List Key × V))
 | set (S:Int→Bool) (n:Nat)
 | ins (C dx:Addr) (fs:List (Str × V))
 | own (x:Addr)
 | xd (fs:List (Str × V))
 | met (f x:Addr)
 | rng (lo hi:Int)
 | frz (o:Obj) (u:HO)
 | tbl (ps:Array Value)
 | ext (φ:Heap→Prop)
abbrev Hp:=Addr→Option HO
noncomputable def upd (H:Hp) (a:Addr) (o:HO):Hp:=fun b=>if b=a then some o else H b
theorem zb {H:Hp} {a:Addr} {o:HO}:upd H a o a=some o:=by unfold upd;rw [kr rfl]
theorem zg {H:Hp} {a b:Addr} {o:HO} (h:b≠a):upd H a o b=H b:=by unfold upd;rw [kq h]
theorem z5v {H:Hp} {a:Addr} {o u:HO}:upd (upd H a o) a u=upd H a u:=by
 funext b;unfold upd;split <;> rfl
theorem jC {H:Hp} {a b:Addr} {o u:HO} (h:H a=some o) (h':H b=some u) (d:o≠u):a≠b:=by
 intro e;subst e;rw [h] at h';exact d (ku h')
theorem zc {H:Hp} {a b:Addr} {o:HO} (h:H a=some o) (h':H b=none):a≠b:=by
 intro e;subst e;rw [h] at h';cases h'
section
variable (P:Program) (w:World)
def qi (H:Hp) (h:Heap) (a:Addr):HO→Prop
 | .lst xs=>xs.length≤sizeLine∧∃(its:List Value) (n:Nat),Vals xs its∧h.get? a=some { cls:=.type "list",data:=.seq its.toArray n }
 | .tup xs=>xs.length≤sizeLine∧∃its:List Value,Vals xs its∧IsTup h a its.toArray
 | .dK kvs=>kvs.length≤sizeLine∧(a == sysModules)=false∧∃vs,KV kvs vs∧h.DictOf (zI P w) a vs
 | .dT kvs=>kvs.length≤sizeLine∧(a == sysModules)=false∧∃xs:List (List Key × Addr × Value),
   Paired (fun (p:List Key × V) (q:List Key × Addr × Value)=>p.1=q.1∧H q.2.1=some (.tup (p.1.map kV))∧RelV p.2 q.2.2) kvs xs∧
   ∃o es ep,h.get? a=some o∧o.ExactDict∧o.data=.dict es ep∧es.toList=xs.map (entryOfKey (tupleKind (zI P w)))∧(xs.map (·.1)).Nodup
 | .set S n=>h.SetOf (intKind P w) a S n
 | .ins C dx fs=>H dx=some (.own a)∧fs.length≤1000∧dx≠a∧h.get? a=some (PySem.W.instObj C dx)∧
   ∃mA,h.Ns1 dx mA∧(∀f,RelO (fs.lookup f) (mA f))∧PySem.Within mA (fs.map (·.1))
 | .own _=>∃o,h.get? a=some o
 | .xd fs=>∃mA,h.Ns1 a mA∧∀f,RelO (fs.lookup f) (mA f)
 | .rng lo hi=>∃t u v,h.get? a=some { cls:=.type "range",data:=.fields #[.int lo t,.int hi u,.int 1 v] }
 | .frz o u=>h.get? a=some o∧qi H h a u
 | .tbl ps=>h.get? a=some { cls:=.none,data:=.fields ps }
 | .met f x=>h.get? a=some (PySem.W.methodObj (.ref f) (.ref x))
 | .ext φ=>φ h∧(∃o,h.get? a=some o)∧∀h1 h2:Heap,φ h1→(∀o,h1.get? a=some o→h2.get? a=some o)→φ h2
def HOk (H:Hp) (h:Heap):Prop:=∀a o,H a=some o→qi P w H h a o
end
section
variable {P:Program} {w:World} {H H':Hp} {h h':Heap} {a:Addr} {o:HO}
theorem qi.lt (x:qi P w H h a o):a < h.objs.size:=by
 cases o with
 | lst xs=>obtain ⟨_,_,_,_,e⟩:=x;exact Heap.lt_size e
 | tup xs=>obtain ⟨_,_,_,p⟩:=x;exact p.lt
 | dK kvs=>obtain ⟨_,_,_,_,o,_,_,e,_⟩:=x;exact Heap.lt_size e
 | dT kvs=>obtain ⟨_,_,_,_,o,_,_,e,_⟩:=x;exact Heap.lt_size e
 | set S n=>obtain ⟨o,_,_,_,e,_⟩:=x;exact Heap.lt_size e
 | ins C dx fs=>obtain ⟨_,_,_,e,_⟩:=x;exact Heap.lt_size e
 | own y=>obtain ⟨_,e⟩:=x;exact Heap.lt_size e
 | xd fs=>obtain ⟨_,⟨_,_,_,e,_⟩,_⟩:=x;exact Heap.lt_size e
 | rng lo hi=>obtain ⟨_,_,_,e⟩:=x;exact Heap.lt_size e
 | frz ob u=>obtain ⟨e,_⟩:=x;exact Heap.lt_size e
 | tbl ps=>exact Heap.lt_size (show h.get? a=some _ from x)
 | met f y=>exact Heap.lt_size (show h.get? a=some _ from x)
 | ext φ=>obtain ⟨_,⟨_,e⟩,_⟩:=x;exact Heap.lt_size e
theorem Paired.mapP {α β:Type} {F G:α→β→Prop}:∀{l₁:List α} {l₂:List β},Paired F l₁ l₂→(∀a b,F a b→G a b)→Paired G l₁ l₂
 | _,_,.nil,_=>.nil
 | _,_,.cons r t,f=>.cons (f _ _ r) (Paired.mapP t f)
theorem qi.stay (x:qi P w H h a o) (k:∀b u,(b=a∨H b=some (.own a))→h.get? b=some u→h'.get? b=some u)
  (ho:∀b,H b=some (.own a)→H' b=some (.own a)) (ht:∀b xs,H b=some (.tup xs)→H' b=some (.tup xs)):qi P w H' h' a o:=by
 induction o with
 | lst xs=>obtain ⟨z,its,n,r,e⟩:=x;exact ⟨z,its,n,r,k _ _ (.inl rfl) e⟩
 | tup xs=>obtain ⟨z,its,r,ob,e,c⟩:=x;exact ⟨z,its,r,ob,k _ _ (.inl rfl) e,c⟩
 | dK kvs=>obtain ⟨z,y,vs,r,ob,es,ep,e,c⟩:=x;exact ⟨z,y,vs,r,ob,es,ep,k _ _ (.inl rfl) e,c⟩
 | dT kvs=>
  obtain ⟨z,y,xs,r,ob,es,ep,e,c⟩:=x
  exact ⟨z,y,xs,Paired.mapP r fun p q z=>⟨z.1,ht _ _ z.2.1,z.2.2⟩,ob,es,ep,k _ _ (.inl rfl) e,c⟩
 | set S n=>obtain ⟨ob,es,ep,t,e,c⟩:=x;exact ⟨ob,es,ep,t,k _ _ (.inl rfl) e,c⟩
 | ins C dx fs=>
  obtain ⟨d,z,ne,e,mA,⟨od,es,ep,e2,c⟩,r⟩:=x
  exact ⟨ho _ d,z,ne,k _ _ (.inl rfl) e,mA,⟨od,es,ep,k _ _ (.inr d) e2,c⟩,r⟩
 | own y=>obtain ⟨ob,e⟩:=x;exact ⟨ob,k _ _ (.inl rfl) e⟩
 | xd fs=>obtain ⟨mA,⟨od,es,ep,e,c⟩,r⟩:=x;exact ⟨mA,⟨od,es,ep,k _ _ (.inl rfl) e,c⟩,r⟩
 | rng lo hi=>obtain ⟨t,u,v,e⟩:=x;exact ⟨t,u,v,k _ _ (.inl rfl) e⟩
 | frz ob u ih=>obtain ⟨e,q⟩:=x;exact ⟨k _ _ (.inl rfl) e,ih q⟩
 | tbl ps=>
  have e:h.get? a=some { cls:=.none,data:=.fields ps }:=x
  show h'.get? a=some { cls:=.none,data:=.fields ps }
  exact k a _ (.inl rfl) e
 | met f y=>
  have e:h.get? a=some (PySem.W.methodObj (.ref f) (.ref y)):=x
  show h'.get? a=some (PySem.W.methodObj (.ref f) (.ref y))
  exact k a _ (.inl rfl) e
 | ext φ=>obtain ⟨p,⟨o,e⟩,st⟩:=x;exact ⟨st _ _ p fun o q=>k _ _ (.inl rfl) q,⟨o,k _ _ (.inl rfl) e⟩,st⟩
theorem HOk.lt (x:HOk P w H h) (e:H a=some o):a < h.objs.size:=(x a o e).lt
theorem HOk.fresh (x:HOk P w H h) (e:h.objs.size≤a):H a=none:=by
 cases q:H a with
 | none=>rfl
 | some u=>exact absurd (kI (x.lt q) e) (Nat.lt_irrefl _)
theorem HOk.kept (x:HOk P w H h) (k:∀b u,h.get? b=some u→h'.get? b=some u):HOk P w H h':=fun a o e=>
 (x a o e).stay (fun b u _ q=>k b u q) (fun _ q=>q) fun _ _ q=>q
theorem HOk.laid (x:HOk P w H h) (k:∀b u,h.get? b=some u→h'.get? b=some u) (hp:h.objs.size≤a) (new:qi P w (upd H a o) h' a o):HOk P w (upd H a o) h':=fun b u e=>by
 have hn:=x.fresh hp
 by_cases hb:b=a
 ·subst hb;rw [zb] at e;cases e;exact new
 ·rw [zg hb] at e
  exact (x b u e).stay (fun c v _ q=>k c v q) (fun c q=>by rw [zg (zc q hn)];exact q) fun c xs q=>by rw [zg (zc q hn)];exact q
end
def Rd (H:Hp) (a:Addr) (u:HO):Prop:=H a=some u∨∃o,H a=some (.frz o u)
theorem Rd.of {H:Hp} {a:Addr} {u:HO} (h:H a=some u):Rd H a u:=.inl h
theorem Rd.ok {P:Program} {w:World} {H:Hp} {h:Heap} {a:Addr} {u:HO} (r:Rd H a u) (x:HOk P w H h):qi P w H h a u:=by
 rcases r with r | ⟨o,r⟩
 ·exact x a u r
 ·obtain ⟨_,q⟩:=x a _ r
  exact q
def Mut:Option HO→Prop
 | some (.lst _)=>True
 | some (.dK _)=>True
 | some (.dT _)=>True
 | some (.set _ _)=>True
 | some (.ins _ _ _)=>True
 | some (.ext _)=>True
 | _=>False
section
variable {P:Program} {w:World} {H:Hp} {h h':Heap} {x e:Addr} {o':HO}
theorem HOk.write (ok:HOk P w H h) (mu:Mut (H x)) (he:e=x∨H e=some (.own x)) (k:∀b u,b≠e→h.get? b=some u→h'.get? b=some u) (heo:∃u,h'.get? e=some u)
  (new:qi P w (upd H x o') h' x o'):HOk P w (upd H x o') h':=fun b u q=>by
 have nown:∀c y,H c=some (.own y)→c≠x:=fun c y r z=>by subst z;rw [r] at mu;exact mu
 have ntup:∀c xs,H c=some (.tup xs)→c≠x:=fun c xs r z=>by subst z;rw [r] at mu;exact mu
 by_cases hb:b=x
 ·subst hb;rw [zb] at q;cases q;exact new
 ·rw [zg hb] at q
  by_cases hbe:b=e
  ·have q':H b=some (.own x):=by
    rcases he with z | z
    ·exact absurd (hbe.trans z) hb
    ·rw [hbe];exact z
   rw [q] at q';cases q'
   obtain ⟨v,hv⟩:=heo
   exact ⟨v,by rw [hbe];exact hv⟩
  ·refine (ok b u q).stay (fun c v hc r=>k c v ?_ r) (fun c r=>by rw [zg (nown c b r)];exact r) fun c xs r=>by rw [zg (ntup c xs r)];exact r
   rcases hc with rfl | hc
   ·exact hbe
   ·rintro rfl
    rcases he with z | z
    ·exact nown c b hc z
    ·rw [hc] at z;cases z;exact hb rfl
end
structure Un (fs ex:List Addr) (H H':Hp) (h h':Heap):Prop where
 keep:∀b o,h.get? b=some o→H b=none→b∉fs→b∉ex→h'.get? b=some o
 slot:∀b o,h.get? b=some o→H b=none→b∈fs→b∉ex→∃sl,h'.get? b=some { o with slots:=sl }
 free:∀b o,h.get? b=some o→H b=none→b∉ex→H' b=none
 there:∀b o,h.get? b=some o→b∉ex→∃o',h'.get? b=some o'
 tups:∀b xs,H b=some (.tup xs)→H' b=some (.tup xs)
 frzs:∀b o u,H b=some (.frz o u)→H' b=some (.frz o u)
 tbls:∀b ps,H b=some (.tbl ps)→∃more,H' b=some (.tbl (ps++more))
section
variable {fs fs' ex ex':List Addr} {H H1 H2:Hp} {h h1 h2 h':Heap} {a x e:Addr} {o:HO}
theorem Un.any (u:Un fs ex H H1 h h1) {b:Addr} {ob:Obj} (q:h.get? b=some ob) (n:H b=none) (hx:b∉ex):∃sl,h1.get? b=some { ob with slots:=sl }:=by
 by_cases hb:b∈fs
 ·exact u.slot b ob q n hb hx
 ·exact ⟨ob.slots,u.keep b ob q n hb hx⟩
theorem Un.kept (k:∀b u,h.get? b=some u→h'.get? b=some u):Un fs ex H H h h':=
 ⟨fun b ob q _ _ _=>k b ob q,fun b ob q _ _ _=>⟨ob.slots,k b ob q⟩,fun _ _ _ n _=>n,fun b ob q _=>⟨ob,k b ob q⟩,fun _ _ q=>q,fun _ _ _ q=>q,fun _ ps q=>⟨#[],by rw [q];simp⟩⟩
theorem Un.refl:Un fs ex H H h h:=Un.kept fun _ _ q=>q
theorem Un.laid (k:∀b u,h.get? b=some u→h'.get? b=some u) (hp:h.objs.size≤a) (hn:H a=none):Un fs ex H (upd H a o) h h' where
 keep:=fun b u q _ _ _=>k b u q
 slot:=fun b u q _ _ _=>⟨u.slots,k b u q⟩
 free:=fun b u q n _=>by rw [zg (Nat.ne_of_lt (kI (Heap.lt_size q) hp))];exact n
 there:=fun b u q _=>⟨u,k b u q⟩
 tups:=fun b xs q=>by rw [zg (zc q hn)];exact q
 frzs:=fun b u xs q=>by rw [zg (zc q hn)];exact q
 tbls:=fun b ps q=>⟨#[],by rw [zg (zc q hn),q];simp⟩
theorem Un.write (mu:Mut (H x)) (he:e=x∨H e=some (.own x)) (k:∀b u,b≠e→h.get? b=some u→h'.get? b=some u) (heo:∃u,h'.get? e=some u):Un fs ex H (upd H x o) h h':=by
 have hx:∀b,H b=none→b≠x:=fun b n z=>by subst z;rw [n] at mu;exact mu
 have hb:∀b,H b=none→b≠e:=fun b n z=>by
  subst z
  rcases he with r | r
  ·exact hx b n r
  ·rw [n] at r;cases r
 have hm:∀b u,H b=some u→¬Mut (some u)→b≠x:=fun b u q nm z=>by subst z;rw [q] at mu;exact nm mu
 refine ⟨fun b u q n _ _=>k b u (hb b n) q,fun b u q n _ _=>⟨u.slots,k b u (hb b n) q⟩,fun b u q n _=>by rw [zg (hx b n)];exact n,fun b u q _=>?_,
  fun b xs q=>by rw [zg (hm b _ q fun z=>z)];exact q,fun b u xs q=>by rw [zg (hm b _ q fun z=>z)];exact q,fun b ps q=>⟨#[],by rw [zg (hm b _ q fun z=>z),q];simp⟩⟩
 by_cases hbe:b=e
 ·subst hbe;exact heo
 ·exact ⟨u,k b u hbe q⟩
end
noncomputable def trk (h:Heap) (H:Hp):List Addr:=(List.range h.objs.size).filter fun a=>(H a).isSome
noncomputable def hidT (h:Heap) (H:Hp):Heap:=PySem.W.hideAll h (trk h H)
theorem z3g (h:Heap) (H:Hp):(hidT h H).objs.size=h.objs.size:=PySem.W.hideAll_size _ _
theorem z4w {h:Heap} {H:Hp} {b:Addr} {o:Obj} (e:h.get? b=some o) (n:H b=none):(hidT h H).get? b=some o:=
 PySem.W.hideAll_get _ e fun hm=>by
  have q:(H b).isSome=true:=(List.mem_filter.mp hm).2
  rw [n] at q;simp at q
theorem z5R {h:Heap} {H:Hp} {b:Addr} {o:Obj} (e:(hidT h H).get? b=some o):h.get? b=some o∧H b=none:=by
 have e':h.get? b=some o:=PySem.W.of_hideAll (trk h H) e
 refine ⟨e',?_⟩
 cases q:H b with
 | none=>rfl
 | some x=>
  have hm:b∈trk h H:=List.mem_filter.mpr ⟨List.mem_range.mpr (Heap.lt_size e'),by simp [q]⟩
  have z:(hidT h H).get? b=none:=PySem.W.hideAll_none (trk h H) hm
  rw [z] at e;cases e
end L2
namespace L2
open PySem PySem.Spec PyProof.Rows
structure Mod (K:ko) (mg:Str→Option Value) (base:Heap):Prop where
 kin:K.In base
 glob:base.Ns mainGlobals mg
 blt:∃mb,base.Ns builtinsNs mb∧∀x:Str,x≠"__name__"→mb x=bootBuiltins x
 nolimit:base.NoLimit
structure Cx where
 prog:Program
 w:World
 K:ko
 mg:Str→Option Value
 base:Heap
 A:Around
 N:List Str
 s₀:Shared
 H₀:Hp
 env:Env
 outer:List Env
 stack:List Env
 ex:List Addr
 fn:Str→Bool
 calm:Bool
 pn:List (Addr × Obj)
 xe:Value→Shared→Prop
noncomputable def frs (l:List Env):List Addr:=l.filterMap (·.frame)
noncomputable abbrev Cx.fs (X:Cx):List Addr:=frs X.outer
def Vis (sc:Scope) (x:Str):Prop:=sc.names.lookup x=some .local∨sc.names.lookup x=some .cell∨sc.names.lookup x=some .free
def Loc (sc:Scope) (x:Str):Prop:=sc.names.lookup x=some .local∨sc.names.lookup x=some .cell
def Look (env:Env) (h:Heap) (m:Str→Option Value) (x:Str) (u:Value):Prop:=
 (env.kindOf x=some .local∧m x=some u)∨((env.kindOf x=some .cell∨env.kindOf x=some .free)∧∃c,env.cells.lookup x=some c∧h.IsCell c (some u))
structure Cx.Ok (X:Cx):Prop where
 mod:Mod X.K X.mg X.base
 kind:X.env.scope.kind=.function
 glob:X.env.globals=mainGlobals
 blt:X.env.builtins=builtinsNs
 above:X.s₀.heap.objs.size≤X.env.locals
 inj:∀x y c,X.env.cells.lookup x=some c→X.env.cells.lookup y=some c→x=y
 has:∀x,(X.env.kindOf x=some .cell∨X.env.kindOf x=some .free)→∃c,X.env.cells.lookup x=some c
 cab:∀x c,X.fn x=true→X.env.cells.lookup x=some c→X.s₀.heap.objs.size≤c
 hd:X.calm=true→X.A.handled=none
 frames:X.A.frames=some X.stack
 stk:X.stack=X.outer∨(X.stack=X.env :: X.outer∧X.env.frame=some X.env.locals)
 exf:∀b∈X.ex,b≠X.env.locals∧∀x c,X.env.cells.lookup x=some c→c≠b
 bs:∀b o,X.base.get? b=some o→X.s₀.heap.get? b=some o∧X.H₀ b=none
 bsz:X.base.objs.size≤X.s₀.heap.objs.size
 noex:∀b o,X.base.get? b=some o→b∉X.ex
 exfs:∀b∈X.ex,b∉X.fs
 funs:X.s₀.heap.FunFrames X.base X.outer
 frf:∀b∈X.fs,X.H₀ b=none
structure Inv (X:Cx) (pins:List (Addr × Obj)) (σ:List (Option V)) (H:Hp) (s:Shared):Prop where
 ok:X.Ok
 os:s.os=X.s₀.os
 bare:AllBare s.gens
 base:Un X.fs X.ex X.H₀ H X.s₀.heap s.heap
 loc:∃m,s.heap.Ns X.env.locals m∧∀(i:Nat) (x:Str) (v:V),X.N[i]?=some x→σ[i]?=some (some v)→Vis X.env.scope x→∃u,RelV v u∧Look X.env s.heap m x u
 cell:∀x c,X.env.cells.lookup x=some c→∃v,s.heap.IsCell c v
 free:H X.env.locals=none
 freeC:∀x c,X.env.cells.lookup x=some c→H c=none
 pin:∀p∈X.pn++pins,s.heap.get? p.1=some p.2∧H p.1=none∧p.1≠X.env.locals∧p.1∉X.fs∧∀v,p.2.data≠.cell v
 hok:HOk X.prog X.w H s.heap
 len:σ.length=X.N.length
section
variable {X:Cx} {pins:List (Addr × Obj)} {σ:List (Option V)} {H H':Hp} {s:Shared} {h':Heap}
theorem Cx.Ok.nofr (ok:X.Ok) {b:Addr} {o:Obj} (e:X.base.get? b=some o):b∉X.fs:=fun hb=>by
 have:=(ok.funs.mem hb).1
 rw [e] at this;cases this
theorem Inv.bs (I:Inv X pins σ H s):∀b o,X.base.get? b=some o→s.heap.get? b=some o∧H b=none:=fun b o e=>
 ⟨I.base.keep b o (I.ok.bs b o e).1 (I.ok.bs b o e).2 (I.ok.nofr e) (I.ok.noex b o e),I.base.free b o (I.ok.bs b o e).1 (I.ok.bs b o e).2 (I.ok.noex b o e)⟩
theorem Inv.bk (I:Inv X pins σ H s):∀b o,X.base.get? b=some o→s.heap.get? b=some o:=fun b o e=>(I.bs b o e).1
theorem Inv.mod (I:Inv X pins σ H s):Mod X.K X.mg X.base:=I.ok.mod
theorem Inv.kIn (I:Inv X pins σ H s):X.K.In s.heap:=I.ok.mod.kin.keeps I.bk
theorem Inv.lt (I:Inv X pins σ H s):X.env.locals < s.heap.objs.size:=let ⟨_,hn,_⟩:=I.loc;hn.lt
theorem Inv.sz (I:Inv X pins σ H s):X.s₀.heap.objs.size≤s.heap.objs.size:=kn I.ok.above (Nat.le_of_lt I.lt)
theorem Inv.nofs (I:Inv X pins σ H s) {a:Addr} (h:s.heap.objs.size≤a):a∉X.fs:=fun hb=>by
 obtain ⟨_,o,ho,_⟩:=I.ok.funs.mem hb
 exact absurd (kI (Heap.lt_size ho) (kn I.sz h)) (Nat.lt_irrefl _)
theorem Inv.cne (I:Inv X pins σ H s):∀x c,X.env.cells.lookup x=some c→c≠X.env.locals:=fun x c e z=>by
 obtain ⟨v,o,ho,hd⟩:=I.cell x c e
 obtain ⟨m,⟨o',es,ep,ho',hd',_⟩,_⟩:=I.loc
 rw [z,ho'] at ho;cases ho;rw [hd'] at hd;cases hd
theorem Inv.funs (I:Inv X pins σ H s):s.heap.FunFrames X.base X.outer:=by
 have all:∀(l:List Env),(∀b∈frs l,b∈X.fs)→X.s₀.heap.FunFrames X.base l→s.heap.FunFrames X.base l:=by
  intro l
  induction l with
  | nil=>intro _ _;trivial
  | cons env r ih=>
   intro hs hl
   obtain ⟨hk,⟨L,o,hf,hn,ho,hd⟩,hr⟩:=hl
   have hL:L∈X.fs:=hs L (by unfold frs;rw [List.filterMap_cons,hf];exact kM)
   obtain ⟨sl,e⟩:=I.base.slot L o ho (I.ok.frf L hL) hL fun z=>I.ok.exfs L z hL
   exact ⟨hk,⟨L,_,hf,hn,e,hd⟩,ih (fun b hb=>hs b (by unfold frs;rw [List.filterMap_cons,hf];exact kN _ hb)) hr⟩
 exact all X.outer (fun _ hb=>hb) I.ok.funs
theorem Inv.stack (I:Inv X pins σ H s):s.heap.FunFrames X.base X.stack:=by
 rcases I.ok.stk with e | ⟨e,hf⟩
 ·rw [e];exact I.funs
 ·rw [e]
  obtain ⟨m,hn,_⟩:=I.loc
  refine .cons (by rw [I.ok.kind];decide) hf hn ?_ I.funs
  exact Heap.get?_none_of_le (kn I.ok.bsz I.ok.above)
theorem Inv.stkSub (I:Inv X pins σ H s):∀b∈frs X.stack,b∈X.env.locals :: X.fs:=fun b hb=>by
 rcases I.ok.stk with e | ⟨e,hf⟩
 ·rw [e] at hb;exact kN _ hb
 ·rw [e] at hb
  unfold frs at hb
  rw [List.filterMap_cons,hf] at hb
  exact hb
theorem Inv.stkFree (I:Inv X pins σ H s):∀b∈frs X.stack,H b=none:=fun b hb=>by
 rcases ky.mp (I.stkSub b hb) with e | hb
 ·rw [e];exact I.free
 ·obtain ⟨_,o,ho,_⟩:=I.ok.funs.mem hb
  exact I.base.free b o ho (I.ok.frf b hb) fun z=>I.ok.exfs b z hb
theorem Inv.step {g':Array GenState} {t':Nat} {d':Drawn} {ch:List Addr} (I:Inv X pins σ H s)
  (hch:∀b∈ch,(b∈X.ex∨X.s₀.heap.objs.size≤b)∧b≠X.env.locals∧(∀x c,X.env.cells.lookup x=some c→c≠b)∧∀p∈X.pn++pins,p.1≠b)
  (keep:∀b o,b≠X.env.locals→b∉X.fs→b∉ch→s.heap.get? b=some o→H b=none→h'.get? b=some o)
  (slot:∀b o,b≠X.env.locals→b∈X.fs→b∉ch→s.heap.get? b=some o→H b=none→∃sl,h'.get? b=some { o with slots:=sl }) (free:∀b o,b∉ch→s.heap.get? b=some o→H b=none→H' b=none)
  (there:∀b o,b∉ch→s.heap.get? b=some o→∃o',h'.get? b=some o')
  (tups:∀b xs,H b=some (.tup xs)→H' b=some (.tup xs)) (frzs:∀b o u,H b=some (.frz o u)→H' b=some (.frz o u)) (tbls:∀b ps,H b=some (.tbl ps)→∃more,H' b=some (.tbl (ps++more)))
  (ns:∀m,s.heap.Ns X.env.locals m→h'.Ns X.env.locals m) (hok:HOk X.prog X.w H' h') (hg:AllBare g'):
  Inv X pins σ H' { s with heap:=h',gens:=g',drawn:=d',toks:=t' }:=by
 have neL:∀b o,X.s₀.heap.get? b=some o→b≠X.env.locals:=fun b o e=>Nat.ne_of_lt (kI (Heap.lt_size e) I.ok.above)
 have neC:∀b o,X.s₀.heap.get? b=some o→b∉X.ex→b∉ch:=fun b o e hx hb=>by
  rcases (hch b hb).1 with z | z
  ·exact hx z
  ·exact absurd (kI (Heap.lt_size e) z) (Nat.lt_irrefl _)
 have cellK:∀x c,X.env.cells.lookup x=some c→∀v,s.heap.IsCell c v→h'.IsCell c v:=fun x c e v ⟨o,ho,hd⟩=>by
  have nch:c∉ch:=fun z=>(hch c z).2.2.1 x c e rfl
  by_cases hc:c∈X.fs
  ·obtain ⟨sl,q⟩:=slot c o (I.cne x c e) hc nch ho (I.freeC x c e)
   exact ⟨_,q,hd⟩
  ·exact ⟨o,keep c o (I.cne x c e) hc nch ho (I.freeC x c e),hd⟩
 refine ⟨I.ok,I.os,hg,⟨fun b o e n hb hx=>?_,fun b o e n hb hx=>?_,fun b o e n hx=>?_,fun b o e hx=>?_,fun b xs e=>tups b xs (I.base.tups b xs e),fun b o xs e=>frzs b o xs (I.base.frzs b o xs e),fun b ps e=>?_⟩,?_,fun x c e=>?_,?_,fun x c e=>?_,fun p hp=>?_,hok,I.len⟩
 ·exact keep b o (neL b o e) hb (neC b o e hx) (I.base.keep b o e n hb hx) (I.base.free b o e n hx)
 ·obtain ⟨sl,e1⟩:=I.base.slot b o e n hb hx
  obtain ⟨sl',e2⟩:=slot b _ (neL b o e) hb (neC b o e hx) e1 (I.base.free b o e n hx)
  exact ⟨sl',e2⟩
 ·obtain ⟨o',e1⟩:=I.base.there b o e hx
  exact free b o' (neC b o e hx) e1 (I.base.free b o e n hx)
 ·obtain ⟨o',e1⟩:=I.base.there b o e hx
  exact there b o' (neC b o e hx) e1
 ·obtain ⟨m1,e1⟩:=I.base.tbls b ps e
  obtain ⟨m2,e2⟩:=tbls b _ e1
  exact ⟨m1++m2,by rw [e2,Array.append_assoc]⟩
 ·obtain ⟨m,hn,hl⟩:=I.loc
  refine ⟨m,ns m hn,fun i x v e1 e2 e3=>?_⟩
  obtain ⟨u,r,l⟩:=hl i x v e1 e2 e3
  refine ⟨u,r,?_⟩
  rcases l with l | ⟨k,c,e,z⟩
  ·exact .inl l
  ·exact .inr ⟨k,c,e,cellK x c e _ z⟩
 ·obtain ⟨v,z⟩:=I.cell x c e
  exact ⟨v,cellK x c e v z⟩
 ·obtain ⟨m,⟨o,_,_,ho,_⟩,_⟩:=I.loc
  exact free _ o (fun z=>(hch _ z).2.1 rfl) ho I.free
 ·obtain ⟨v,o,ho,hd⟩:=I.cell x c e
  exact free c o (fun z=>(hch c z).2.2.1 x c e rfl) ho (I.freeC x c e)
 ·obtain ⟨e,n,ne,nf,d⟩:=I.pin p hp
  have nch:p.1∉ch:=fun z=>(hch p.1 z).2.2.2 p hp rfl
  exact ⟨keep p.1 p.2 ne nf nch e n,free p.1 p.2 nch e n,ne,nf,d⟩
theorem Inv.un {t':Nat} (I:Inv X pins σ H s) (u:Un X.fs [] H H' s.heap h') (hok:HOk X.prog X.w H' h'):Inv X pins σ H' { s with heap:=h',toks:=t' }:=by
 obtain ⟨m,⟨o,es,ep,ho,r⟩,_⟩:=id I.loc
 obtain ⟨sl,hL⟩:=u.any ho I.free (by simp)
 exact I.step (g':=s.gens) (d':=s.drawn) (ch:=[]) (fun _ z=>nomatch z) (fun b o _ hb _ e n=>u.keep b o e n hb (by simp)) (fun b o _ hb _ e n=>u.slot b o e n hb (by simp)) (fun b o _ e n=>u.free b o e n (by simp)) (fun b o _ e=>u.there b o e (by simp)) u.tups u.frzs u.tbls (fun m' hm=>by
  obtain ⟨o',es',ep',ho',r'⟩:=hm
  rw [ho] at ho';cases ho'
  exact ⟨_,es',ep',hL,r'⟩) hok I.bare
theorem Inv.call {g':Array GenState} {t':Nat} {d':Drawn} {ch:List Addr} (I:Inv X pins σ H s) (u:Un (frs X.stack) ch H H' s.heap h') (hok:HOk X.prog X.w H' h') (hg:AllBare g')
  (hch:∀b∈ch,(b∈X.ex∨X.s₀.heap.objs.size≤b)∧b≠X.env.locals∧(∀x c,X.env.cells.lookup x=some c→c≠b)∧∀p∈X.pn++pins,p.1≠b):
  Inv X pins σ H' { s with heap:=h',gens:=g',drawn:=d',toks:=t' }:=by
 obtain ⟨m,⟨o,es,ep,ho,r⟩,_⟩:=id I.loc
 obtain ⟨sl,hL⟩:=u.any ho I.free fun z=>(hch _ z).2.1 rfl
 exact I.step (ch:=ch) hch (fun b o hL hb hc e n=>u.keep b o e n (fun z=>(ky.mp (I.stkSub b z)).elim hL hb) hc) (fun b o _ _ hc e n=>u.any e n hc) (fun b o hc e n=>u.free b o e n hc) (fun b o hc e=>u.there b o e hc) u.tups u.frzs u.tbls (fun m' hm=>by
  obtain ⟨o',es',ep',ho',r'⟩:=hm
  rw [ho] at ho';cases ho'
  exact ⟨_,es',ep',hL,r'⟩) hok hg
theorem Inv.turned {t':Nat} {it:Addr} (I:Inv X pins σ H s) (k:∀b o,b≠it→s.heap.get? b=some o→h'.get? b=some o) (hn:H it=none) (hL:it≠X.env.locals)
  (h1:it∈X.ex∨X.s₀.heap.objs.size≤it) (h2:∀x c,X.env.cells.lookup x=some c→c≠it) (h3:∀p∈X.pn++pins,p.1≠it):Inv X pins σ H { s with heap:=h',toks:=t' }:=by
 have nit:∀b u,H b=some u→b≠it:=fun b u e z=>by rw [z,hn] at e;cases e
 refine I.step (g':=s.gens) (d':=s.drawn) (ch:=[it]) (fun b hb=>?_) (fun b o _ _ hc e _=>k b o (fun z=>hc (by simp [z])) e) (fun b o _ _ hc e _=>⟨o.slots,k b o (fun z=>hc (by simp [z])) e⟩) (fun _ _ _ _ n=>n)
  (fun b o hc e=>⟨o,k b o (fun z=>hc (by simp [z])) e⟩) (fun _ _ e=>e) (fun _ _ _ e=>e) (fun b ps e=>⟨#[],by rw [e];simp⟩) (fun m hm=>?_) (fun b u e=>?_) I.bare
 ·have e:b=it:=by simpa using hb
  subst e
  exact ⟨h1,hL,h2,h3⟩
 ·obtain ⟨o,es,ep,ho,r⟩:=hm
  exact ⟨o,es,ep,k _ o (Ne.symm hL) ho,r⟩
 ·refine (I.hok b u e).stay (fun c v hc q=>k c v ?_ q) (fun _ q=>q) fun _ _ q=>q
  rcases hc with z | z
  ·rw [z];exact nit b u e
  ·exact nit c _ z
theorem Inv.tok (I:Inv X pins σ H s) (t:Nat):Inv X pins σ H { s with toks:=t }:=I.un (h':=s.heap) (t':=t) Un.refl I.hok
theorem Inv.kept {t':Nat} (I:Inv X pins σ H s) (k:∀b u,s.heap.get? b=some u→h'.get? b=some u):Inv X pins σ H { s with heap:=h',toks:=t' }:=I.un (Un.kept k) (I.hok.kept k)
theorem Inv.laid {a:Addr} {o:HO} {t':Nat} (I:Inv X pins σ H s) (k:∀b u,s.heap.get? b=some u→h'.get? b=some u) (hp:s.heap.objs.size≤a) (new:qi X.prog X.w (upd H a o) h' a o):
  Inv X pins σ (upd H a o) { s with heap:=h',toks:=t' }:=I.un (Un.laid k hp (I.hok.fresh hp)) (I.hok.laid k hp new)
theorem Inv.write {x e:Addr} {o:HO} {t':Nat} (I:Inv X pins σ H s) (mu:Mut (H x)) (he:e=x∨H e=some (.own x)) (k:∀b u,b≠e→s.heap.get? b=some u→h'.get? b=some u) (heo:∃u,h'.get? e=some u)
  (new:qi X.prog X.w (upd H x o) h' x o):Inv X pins σ (upd H x o) { s with heap:=h',toks:=t' }:=I.un (Un.write mu he k heo) (I.hok.write mu he k heo new)
theorem Inv.pins_of {pins':List (Addr × Obj)} (I:Inv X pins σ H s) (h:∀p∈pins',s.heap.get? p.1=some p.2∧H p.1=none∧p.1≠X.env.locals∧p.1∉X.fs∧∀v,p.2.data≠.cell v):Inv X pins' σ H s:=
 ⟨I.ok,I.os,I.bare,I.base,I.loc,I.cell,I.free,I.freeC,fun p hp=>(kO.mp hp).elim (fun z=>I.pin p (kK _ z)) (h p),I.hok,I.len⟩
theorem z15 {N:List Str} (hN:N.Nodup) {i j:Nat} {x:Str} (a:N[i]?=some x) (b:N[j]?=some x):i=j:=by
 obtain ⟨h1,e1⟩:=ke.mp a
 obtain ⟨h2,e2⟩:=ke.mp b
 exact (List.getElem_inj hN).mp (e1.trans e2.symm)
theorem Q3 {M:Model} {A:Around} {E:Value→Shared→Prop} {i:Nat} {x:Str} {v:V} {u:Value} {Q:Unit→Shared→Prop} (I:Inv X pins σ H s) (hN:X.N.Nodup) (hi:X.N[i]?=some x) (hx:Loc X.env.scope x) (r:RelV v u)
  (h:∀s',Inv X pins (σ.set i (some v)) H s'→(∃a,Heap.SameBut a s.heap s'.heap∧(a=X.env.locals∨X.env.cells.lookup x=some a))→Q () s') (hf:X.fn x=true∨X.env.scope.names.lookup x=some .local:=by first | exact .inl rfl | exact .inr rfl | assumption):wpAny M A (storeName X.env x u) Q E s:=by
 obtain ⟨m,hn,hl⟩:=id I.loc
 have hcls:(X.env.scope.kind == .class||(X.env.scope.kind == .module&&X.env.locals != X.env.globals))=false:=by rw [I.ok.kind];rfl
 have hiσ:i < σ.length:=by rw [I.len];exact (ke.mp hi).1
 have cne:=I.cne
 have tracked:∀{a:Addr} {h':Heap},(∃o,s.heap.get? a=some o∧H a=none)→Heap.SameBut a s.heap h'→HOk X.prog X.w H h':=fun {a h'} ha hs b ob e=>by
  obtain ⟨_,_,hfree⟩:=ha
  refine (I.hok b ob e).stay (fun c w' hc q=>(hs.2 c ?_).trans q) (fun _ q=>q) fun _ _ q=>q
  rintro rfl
  rcases hc with rfl | hc
  ·rw [hfree] at e;cases e
  ·rw [hfree] at hc;cases hc
 rcases hx with hk | hk
 ·refine wpAny_storeName_local hk hn (fun h' hn' hs=>?_) hcls
  obtain ⟨oL,_,_,hoL,_⟩:=id hn
  refine h _ ⟨I.ok,I.os,I.bare,⟨fun b o e n hb hx=>?_,fun b o e n hb hx=>?_,I.base.free,fun b o e hx=>?_,I.base.tups,I.base.frzs,I.base.tbls⟩,⟨_,hn',fun j y v' e1 e2 e3=>?_⟩,fun y c e=>?_,I.free,I.freeC,fun p hp=>?_,tracked ⟨oL,hoL,I.free⟩ hs,by simpa using I.len⟩ ⟨_,hs,.inl rfl⟩
  ·exact (hs.2 b (Nat.ne_of_lt (kI (Heap.lt_size e) I.ok.above))).trans (I.base.keep b o e n hb hx)
  ·obtain ⟨sl,e1⟩:=I.base.slot b o e n hb hx
   exact ⟨sl,(hs.2 b (Nat.ne_of_lt (kI (Heap.lt_size e) I.ok.above))).trans e1⟩
  ·obtain ⟨o',e1⟩:=I.base.there b o e hx
   exact ⟨o',(hs.2 b (Nat.ne_of_lt (kI (Heap.lt_size e) I.ok.above))).trans e1⟩
  ·by_cases hj:j=i
   ·subst hj
    rw [hi] at e1;cases e1
    rw [List.getElem?_set_self hiσ] at e2
    cases e2
    exact ⟨u,r,.inl ⟨hk,by simp⟩⟩
   ·rw [List.getElem?_set_ne (Ne.symm hj)] at e2
    obtain ⟨u',r',q⟩:=hl j y v' e1 e2 e3
    refine ⟨u',r',?_⟩
    rcases q with ⟨k,e⟩ | ⟨k,c,e,z⟩
    ·refine .inl ⟨k,?_⟩
     have:y≠x:=fun e=>hj (z15 hN e1 (e▸hi))
     simp [this,e]
    ·exact .inr ⟨k,c,e,z.sameBut hs (cne y c e)⟩
  ·obtain ⟨w',z⟩:=I.cell y c e
   exact ⟨w',z.sameBut hs (cne y c e)⟩
  ·obtain ⟨e,n,ne,nf,d⟩:=I.pin p hp
   exact ⟨(hs.2 p.1 ne).trans e,n,ne,nf,d⟩
 ·have hfn:X.fn x=true:=by
   rcases hf with z | z
   ·exact z
   ·rw [z] at hk;cases hk
  obtain ⟨c,hc⟩:=I.ok.has x (.inl hk)
  obtain ⟨w',z⟩:=I.cell x c hc
  refine wpAny_storeName_cell I.ok.kind hk hc z (fun h' hc' hs=>?_)
  obtain ⟨oc,hoc,hocd⟩:=id z
  refine h { s with heap:=h' } ⟨I.ok,I.os,I.bare,⟨fun b o e n hb hx=>?_,fun b o e n hb hx=>?_,I.base.free,fun b o e hx=>?_,I.base.tups,I.base.frzs,I.base.tbls⟩,⟨m,hn.sameBut hs (Ne.symm (cne x c hc)),fun j y v' e1 e2 e3=>?_⟩,fun y c' e=>?_,I.free,I.freeC,fun p hp=>?_,tracked ⟨oc,hoc,I.freeC x c hc⟩ hs,by simpa using I.len⟩ ⟨c,hs,.inr hc⟩
  ·exact (hs.2 b (Nat.ne_of_lt (kI (Heap.lt_size e) (I.ok.cab x c hfn hc)))).trans (I.base.keep b o e n hb hx)
  ·obtain ⟨sl,e1⟩:=I.base.slot b o e n hb hx
   exact ⟨sl,(hs.2 b (Nat.ne_of_lt (kI (Heap.lt_size e) (I.ok.cab x c hfn hc)))).trans e1⟩
  ·obtain ⟨o',e1⟩:=I.base.there b o e hx
   exact ⟨o',(hs.2 b (Nat.ne_of_lt (kI (Heap.lt_size e) (I.ok.cab x c hfn hc)))).trans e1⟩
  ·by_cases hj:j=i
   ·subst hj
    rw [hi] at e1;cases e1
    rw [List.getElem?_set_self hiσ] at e2
    cases e2
    exact ⟨u,r,.inr ⟨.inl hk,c,hc,hc'⟩⟩
   ·rw [List.getElem?_set_ne (Ne.symm hj)] at e2
    obtain ⟨u',r',q⟩:=hl j y v' e1 e2 e3
    refine ⟨u',r',?_⟩
    rcases q with q | ⟨k,c',e,z'⟩
    ·exact .inl q
    ·refine .inr ⟨k,c',e,z'.sameBut hs ?_⟩
     rintro rfl
     exact hj (z15 hN e1 (I.ok.inj _ _ _ e hc▸hi))
  ·by_cases hcc:c'=c
   ·subst hcc;exact ⟨_,hc'⟩
   ·obtain ⟨w2,z2⟩:=I.cell y c' e
    exact ⟨w2,z2.sameBut hs hcc⟩
  ·obtain ⟨e,n,ne,nf,d⟩:=I.pin p hp
   refine ⟨(hs.2 p.1 ?_).trans e,n,ne,nf,d⟩
   intro q
   rw [q,hoc] at e
   have q':oc=p.2:=ku e
   exact d w' (by rw [←q'];exact hocd)
theorem ZS {M:Model} {A:Around} {E:Value→Shared→Prop} {i:Nat} {x:Str} {v:V} {u:Value} {Q:Unit→Shared→Prop} (I:Inv X pins σ H s) (hN:X.N.Nodup) (hi:X.N[i]?=some x) (hx:Loc X.env.scope x) (r:RelV v u)
  (h:∀s',Inv X pins (σ.set i (some v)) H s'→Q () s') (hf:X.fn x=true∨X.env.scope.names.lookup x=some .local:=by first | exact .inl rfl | exact .inr rfl | assumption):wpAny M A (storeName X.env x u) Q E s:=
 Q3 I hN hi hx r (fun s' I' _=>h s' I') hf
theorem Inv.call' {s':Shared} {ch:List Addr} (I:Inv X pins σ H s) (ho:s'.os=s.os) (u:Un (frs X.stack) ch H H' s.heap s'.heap) (hok:HOk X.prog X.w H' s'.heap) (hg:AllBare s'.gens)
  (hch:∀b∈ch,(b∈X.ex∨X.s₀.heap.objs.size≤b)∧b≠X.env.locals∧(∀x c,X.env.cells.lookup x=some c→c≠b)∧∀p∈X.pn++pins,p.1≠b):Inv X pins σ H' s':=by
 obtain ⟨h',g',d',t',o'⟩:=s'
 have e:o'=s.os:=ho
 subst e
 exact I.call (g':=g') (t':=t') (d':=d') u hok hg hch
end
abbrev XK:=Value→Option Addr→Hp→Prop
abbrev St:=List (Option V)
abbrev VK:=V→Hp→Prop
abbrev TE:=St→Hp→VK→Prop
abbrev TT:=St→Hp→(Bool→Hp→Prop)→Prop
abbrev TA:=St→Hp→(List V→Hp→Prop)→Prop
structure Ends where
 nx:St→Hp→Prop
 rt:VK
 bk:St→Hp→Prop:=fun _ _=>False
 ct:St→Hp→Prop:=fun _ _=>False
abbrev TS:=Ends→St→Hp→Prop
def EP (X:Cx) (pins:List (Addr × Obj)) (σ:St) (Q:VK) (u:Value) (s':Shared):Prop:=∃v H',Inv X pins σ H' s'∧RelV v u∧Q v H'
def TP (X:Cx) (pins:List (Addr × Obj)) (σ:St) (Q:Bool→Hp→Prop) (b:Bool) (s':Shared):Prop:=∃H',Inv X pins σ H' s'∧Q b H'
def AP (X:Cx) (pins:List (Addr × Obj)) (σ:St) (Q:List V→Hp→Prop) (us:List Value) (s':Shared):Prop:=∃vs H',Inv X pins σ H' s'∧Vals vs us∧Q vs H'
def SP (X:Cx) (pins:List (Addr × Obj)) (D:Ends) (f:Flow) (s':Shared):Prop:=
 match f with
 | .next=>∃σ' H',Inv X pins σ' H' s'∧D.nx σ' H'
 | .brk=>∃σ' H',Inv X pins σ' H' s'∧D.bk σ' H'
 | .cont=>∃σ' H',Inv X pins σ' H' s'∧D.ct σ' H'
 | .ret u=>∃v σ' H',Inv X pins σ' H' s'∧RelV v u∧D.rt v H'
def PE (X:Cx) (e:Expr) (t:TE):Prop:=
 ∀(pins:List (Addr × Obj)) (s:Shared) (σ:St) (H:Hp) (Q:VK),Inv X pins σ H s→t σ H Q→wpAny (model X.prog X.w) X.A (eval e X.env) (EP X pins σ Q) X.xe s
def PT (X:Cx) (e:Expr) (t:TT):Prop:=
 ∀(pins:List (Addr × Obj)) (s:Shared) (σ:St) (H:Hp) (Q:Bool→Hp→Prop),Inv X pins σ H s→t σ H Q→wpAny (model X.prog X.w) X.A (isTrue e X.env (eval e X.env)) (TP X pins σ Q) X.xe s
def PW (X:Cx) (e:Expr) (t:TT):Prop:=
 ∀(whole:Sem Value) (pins:List (Addr × Obj)) (s:Shared) (σ:St) (H:Hp) (Q:Bool→Hp→Prop),Inv X pins σ H s→t σ H Q→wpAny (model X.prog X.w) X.A (isTrue e X.env whole) (TP X pins σ Q) X.xe s
theorem PW.pt {X:Cx} {e:Expr} {t:TT} (h:PW X e t):PT X e t:=h _
def PA (X:Cx) (es:List Expr) (t:TA):Prop:=
 ∀(pos:Pos) (pins:List (Addr × Obj)) (s:Shared) (σ:St) (H:Hp) (Q:List V→Hp→Prop),Inv X pins σ H s→t σ H Q→wpAny (model X.prog X.w) X.A (spliced (backTo pos (starEach es X.env))) (AP X pins σ Q) X.xe s
def PS (X:Cx) (st:Stmt) (t:TS):Prop:=
 ∀(pins:List (Addr × Obj)) (s:Shared) (σ:St) (H:Hp) (D:Ends),Inv X pins σ H s→t D σ H→wpAny (model X.prog X.w) X.A (exec st X.env) (SP X pins D) X.xe s
def PSs (X:Cx) (st:List Stmt) (t:TS):Prop:=
 ∀(pins:List (Addr × Obj)) (s:Shared) (σ:St) (H:Hp) (D:Ends),Inv X pins σ H s→t D σ H→wpAny (model X.prog X.w) X.A (execs st X.env) (SP X pins D) X.xe s
theorem thn {α:Type} {t:Sem α} {Q Q':α→Shared→Prop} {M:Model} {A:Around} {E:Value→Shared→Prop} {s:Shared} (h:wpAny M A t Q E s) (hQ:∀a s,Q a s→Q' a s):wpAny M A t Q' E s:=wpAny_mono h hQ fun _ _ x=>x
end L2
namespace L2
open PySem PySem.Spec PyProof.Rows
section
variable {X:Cx}
def tVar (i:Nat):TE:=fun σ H Q=>∃v,σ[i]?=some (some v)∧Q v H
abbrev tC (v:V):TE:=fun _ H Q=>Q v H
theorem z6W {i:Nat} {x:Str} {pos:Pos} (hN:X.N[i]?=some x) (hv:Vis X.env.scope x) (hd:autoParam ((x == ("__debug__":Str))=false) aR._auto_2) (hcd:autoParam ((x == ("__classdict__":Str))=false) aR._auto_2):PE X (.Name x pos) (tVar i):=by
 intro pins s σ H Q I h
 obtain ⟨v,e,h⟩:=h
 obtain ⟨m,hn,hl⟩:=I.loc
 obtain ⟨u,r,l⟩:=hl i x v hN e hv
 have fin:EP X pins σ Q u s:=⟨v,H,I,r,h⟩
 rcases l with ⟨hk,hm⟩ | ⟨hk,c,hc,hcell⟩
 ·exact wpAny_Name (wpAny_loadName_local I.ok.kind hk hn hm fin) hd
 ·rcases hk with hk | hk
  ·exact wpAny_Name (wpAny_loadName_cell I.ok.kind hk hc hcell fin) hd
  ·exact wpAny_Name (wpAny_loadName_free I.ok.kind hk hc hcell fin hcd) hd
theorem zh {i j pos}:PE X (.Constant (.int i) j pos) (tC (.int i)):=fun _ _ _ H _ I h=>wpAny_Constant_int ⟨.int i,H,I.tok _,⟨_,rfl⟩,h⟩
theorem Qc {b j pos}:PE X (.Constant (.bool b) j pos) (tC (.bl b)):=fun _ _ _ H _ I h=>Constant_bool ⟨.bl b,H,I,rfl,h⟩
theorem qU {j pos}:PE X (.Constant .none j pos) (tC .non):=fun _ _ _ H _ I h=>Constant_none ⟨.non,H,I,rfl,h⟩
theorem zq {x j pos}:PE X (.Constant (.str x) j pos) (tC (.str x)):=fun _ _ _ H _ I h=>Calls.Constant_str ⟨.str x,H,I.tok _,⟨_,rfl⟩,h⟩
def Gl (X:Cx) (x:Str):Prop:=X.env.kindOf x=some .globalImplicit
theorem Qi {E:Value→Shared→Prop} {pins:List (Addr × Obj)} {s:Shared} {σ:St} {H:Hp} {x:Str} {u:Value} {pos:Pos} {Q:Value→Shared→Prop} (I:Inv X pins σ H s) (hg:Gl X x) (hm:X.mg x=some u) (h:Q u s)
  (hd:autoParam ((x == ("__debug__":Str))=false) aR._auto_2):wpAny (model X.prog X.w) X.A (eval (.Name x pos) X.env) Q E s:=
 Calls.Name_function_global I.ok.kind hg (Calls.loadGlobal_global (by rw [I.ok.glob];exact I.mod.glob.keeps I.bk) hm h) hd
theorem ZK {E:Value→Shared→Prop} {pins:List (Addr × Obj)} {s:Shared} {σ:St} {H:Hp} {x:Str} {u:Value} {pos:Pos} {Q:Value→Shared→Prop} (I:Inv X pins σ H s) (hg:Gl X x) (hm:X.mg x=none) (hv:bootBuiltins x=some u) (h:Q u s)
  (hn:autoParam (x≠"__name__") aR._auto_2) (hd:autoParam ((x == ("__debug__":Str))=false) aR._auto_2):wpAny (model X.prog X.w) X.A (eval (.Name x pos) X.env) Q E s:=by
 obtain ⟨mb,h1,h2⟩:=I.mod.blt
 exact Calls.Name_function_global I.ok.kind hg (Calls.loadGlobal_builtin (by rw [I.ok.glob];exact I.mod.glob.keeps I.bk) hm (by rw [I.ok.blt];exact h1.keeps I.bk) ((h2 x hn).trans hv) h) hd
theorem Z3 {x:Str} {v:V} {u:Value} {pos:Pos} (hg:Gl X x) (hm:X.mg x=some u) (r:RelV v u) (hd:autoParam ((x == ("__debug__":Str))=false) aR._auto_2):PE X (.Name x pos) (tC v):=
 fun _ _ _ H _ I h=>Qi I hg hm ⟨v,H,I,r,h⟩ hd
theorem z5M {x:Str} {v:V} {u:Value} {pos:Pos} (hg:Gl X x) (hm:X.mg x=none) (hv:bootBuiltins x=some u) (r:RelV v u) (hn:autoParam (x≠"__name__") aR._auto_2) (hd:autoParam ((x == ("__debug__":Str))=false) aR._auto_2):PE X (.Name x pos) (tC v):=
 fun _ _ _ H _ I h=>ZK I hg hm hv ⟨v,H,I,r,h⟩ hn hd
variable {a b:Expr} {ta tb:TE} {pos:Pos}
def PC (X:Cx) (op:CmpOp) (a b:Expr) (t:TE):Prop:=
 ∀(pins:List (Addr × Obj)) (s:Shared) (σ:St) (H:Hp) (Q:VK),Inv X pins σ H s→t σ H Q→
  wpAny (model X.prog X.w) X.A (eval a X.env) (fun v s₁=>wpAny (model X.prog X.w) X.A (eval b X.env) (fun u s₂=>wpAny (model X.prog X.w) X.A (compareOp op v u) (EP X pins σ Q) X.xe s₂) X.xe s₁) X.xe s
def tB (t:TE):TT:=fun σ H Q=>t σ H fun x H1=>∃c,x=.bl c∧Q c H1
theorem z5e {op:CmpOp} {t:TE} (h:PC X op a b t) (h1:behindInMarks op b=false:=by first | exact nobehind _ (by decide) (by decide) | rfl):PE X (.Compare a [op] [b] pos) t:=fun pins s σ H Q I hw=>wpAny_Compare1 (h pins s σ H Q I hw) h1
theorem z2F {op:CmpOp} {t:TE} (h:PC X op a b t) (h1:behindInMarks op b=false:=by first | exact nobehind _ (by decide) (by decide) | rfl):PT X (.Compare a [op] [b] pos) (tB t):=by
 intro pins s σ H Q I hw
 refine wpAny_isTrue_Compare1 (thn (h pins s σ H _ I hw) fun v s1 h1=>thn h1 fun u s2 h2=>thn h2 fun c s3 ⟨x,H1,I1,r1,q1⟩=>?_) h1
 obtain ⟨d,rfl,q⟩:=q1
 cases r1
 exact wpAny_truthy_bool ⟨H1,I1,q⟩
theorem je {e:Expr} {t:TE} (h:PE X e t) (he:∀whole,isTrue e X.env whole=(do let v ←whole;standAt e.pos;holding [v] (truthy v)):=by intro _;rfl):PT X e (tB t):=by
 intro pins s σ H Q I hw
 refine isTrue_plain (thn (h pins s σ H _ I hw) fun v s1 ⟨x,H1,I1,r1,q1⟩=>?_) (he _)
 obtain ⟨d,rfl,q⟩:=q1
 cases r1
 exact wpAny_truthy_bool ⟨H1,I1,q⟩
variable {tA tB':TT} {rest:List Expr}
def tAnd (t u:TT):TT:=fun σ H Q=>t σ H fun c H1=>if c=true then u σ H1 Q else Q false H1
def tOr (t u:TT):TT:=fun σ H Q=>t σ H fun c H1=>if c=true then Q true H1 else u σ H1 Q
def tNot (t:TT):TT:=fun σ H Q=>t σ H fun c H1=>Q (!c) H1
theorem Zy (ha:PT X a tA):PW X (.BoolOp .And [a] pos) tA:=by
 intro wh pins s σ H Q I h
 refine isTrue_and (thn (ha pins s σ H Q I h) fun c s1 e=>?_)
 cases c with
 | true=>exact isTrue_and_nil e
 | false=>exact e
theorem Ze (ha:PT X a tA):PW X (.BoolOp .Or [a] pos) tA:=by
 intro wh pins s σ H Q I h
 refine isTrue_or (thn (ha pins s σ H Q I h) fun c s1 e=>?_)
 cases c with
 | false=>exact isTrue_or_nil e
 | true=>exact e
theorem Qy (ha:PT X a tA) (hb:PW X (.BoolOp .And (b :: rest) pos) tB'):PW X (.BoolOp .And (a :: b :: rest) pos) (tAnd tA tB'):=by
 intro wh pins s σ H Q I h
 refine isTrue_and (thn (ha pins s σ H _ I h) fun c s1 zz=>?_)
 obtain ⟨H1,I1,q1⟩:=zz
 cases c with
 | true=>exact hb wh pins s1 σ H1 Q I1 q1
 | false=>exact ⟨H1,I1,q1⟩
theorem Qs (ha:PT X a tA) (hb:PW X (.BoolOp .Or (b :: rest) pos) tB'):PW X (.BoolOp .Or (a :: b :: rest) pos) (tOr tA tB'):=by
 intro wh pins s σ H Q I h
 refine isTrue_or (thn (ha pins s σ H _ I h) fun c s1 zz=>?_)
 obtain ⟨H1,I1,q1⟩:=zz
 cases c with
 | true=>exact ⟨H1,I1,q1⟩
 | false=>exact hb wh pins s1 σ H1 Q I1 q1
theorem Q8 (ha:PT X a tA):PT X (.UnaryOp .Not a pos) (tNot tA):=by
 intro pins s σ H Q I h
 exact isTrue_not (ha pins s σ H (fun c H1=>Q (!c) H1) I h)
def z7L (ta tb:TE):TE:=fun σ H Q=>ta σ H fun x H1=>∃c,x=.bl c∧if c=true then tb σ H1 Q else Q (.bl false) H1
def tOrV (ta tb:TE):TE:=fun σ H Q=>ta σ H fun x H1=>∃c,x=.bl c∧if c=true then Q (.bl true) H1 else tb σ H1 Q
def z7F (ta:TE):TE:=fun σ H Q=>ta σ H fun x H1=>∃c,x=.bl c∧Q (.bl (!c)) H1
theorem jg {op} {t:TE} (h:PE X a t):PE X (.BoolOp op [a] pos) t:=fun pins s σ H Q I hw=>BoolOp_one (h pins s σ H Q I hw)
theorem jh (ha:PE X a ta) (hb:PE X (.BoolOp .And (b :: rest) pos) tb):PE X (.BoolOp .And (a :: b :: rest) pos) (z7L ta tb):=by
 intro pins s σ H Q I h
 refine BoolOp_and (thn (ha pins s σ H _ I h) fun v s1 zz=>?_)
 obtain ⟨x,H1,I1,r1,q1⟩:=zz
 obtain ⟨c,rfl,q1⟩:=q1
 cases r1
 refine wpAny_truthy_bool ?_
 cases c with
 | true=>exact hb pins s1 σ H1 Q I1 q1
 | false=>exact ⟨.bl false,H1,I1,rfl,q1⟩
theorem z5K (ha:PE X a ta) (hb:PE X (.BoolOp .Or (b :: rest) pos) tb):PE X (.BoolOp .Or (a :: b :: rest) pos) (tOrV ta tb):=by
 intro pins s σ H Q I h
 refine BoolOp_or (thn (ha pins s σ H _ I h) fun v s1 zz=>?_)
 obtain ⟨x,H1,I1,r1,q1⟩:=zz
 obtain ⟨c,rfl,q1⟩:=q1
 cases r1
 refine wpAny_truthy_bool ?_
 cases c with
 | false=>exact hb pins s1 σ H1 Q I1 q1
 | true=>exact ⟨.bl true,H1,I1,rfl,q1⟩
theorem z5d (ha:PE X a ta):PE X (.UnaryOp .Not a pos) (z7F ta):=by
 intro pins s σ H Q I h
 refine UnaryOp_ (thn (ha pins s σ H _ I h) fun v s1 zz=>?_)
 obtain ⟨x,H1,I1,r1,q1⟩:=zz
 obtain ⟨c,rfl,q1⟩:=q1
 cases r1
 exact not_of (wpAny_truthy_bool ⟨.bl (!c),H1,I1,rfl,q1⟩)
def tIf (t:TT) (ta tb:TE):TE:=fun σ H Q=>t σ H fun c H1=>if c=true then ta σ H1 Q else tb σ H1 Q
theorem j9 {c:Expr} (hc:PT X c tA) (ha:PE X a ta) (hb:PE X b tb):PE X (.IfExp c a b pos) (tIf tA ta tb):=by
 intro pins s σ H Q I h
 refine wpAny_IfExp (thn (hc pins s σ H _ I h) fun d s1 zz=>?_)
 obtain ⟨H1,I1,q1⟩:=zz
 cases d with
 | true=>exact ha pins s1 σ H1 Q I1 q1
 | false=>exact hb pins s1 σ H1 Q I1 q1
end
end L2
namespace L2
open PySem PySem.Spec PyProof.Rows
def SqL (K:ko) (H:Hp) (a:Addr) (xs:List V):Prop:=
 Rd H a (.lst xs)∨
  ∃(o:Obj) (its:Array Value) (n:Nat),K.lookup a=some o∧o.cls=.type "list"∧o.dict=none∧o.data=.seq its n∧its.size≤sizeLine∧Vals xs its.toList
def SqT (K:ko) (H:Hp) (a:Addr) (xs:List V):Prop:=
 Rd H a (.tup xs)∨
  ∃(o:Obj) (its:Array Value) (n:Nat),K.lookup a=some o∧o.cls=.type "tuple"∧o.data=.seq its n∧its.size≤sizeLine∧Vals xs its.toList
noncomputable def absV:Value→Option V
 | .none=>some .non
 | .bool b=>some (.bl b)
 | .int i _=>some (.int i)
 | .str x _=>some (.str x)
 | .bytes b _=>some (.byt b)
 | .float b _=>some (.flt b)
 | .ref a=>some (.ref a)
 | .type n=>some (.ty n)
 | _=>none
theorem RelV.abs {x:V} {u:Value} (r:RelV x u):absV u=some x:=by
 cases x with
 | non=>cases r;rfl
 | bl _=>cases r;rfl
 | int _=>obtain ⟨t,rfl⟩:=r;rfl
 | str _=>obtain ⟨t,rfl⟩:=r;rfl
 | byt _=>obtain ⟨t,rfl⟩:=r;rfl
 | flt _=>obtain ⟨t,rfl⟩:=r;rfl
 | ref _=>cases r;rfl
 | ty _=>cases r;rfl
theorem RelV.inj {x y:V} {u:Value} (r:RelV x u) (q:RelV y u):x=y:=ku (r.abs.symm.trans q.abs)
theorem Vals.inj:∀{xs ys:List V} {us:List Value},Vals xs us→Vals ys us→xs=ys
 | _,_,_,.nil,.nil=>rfl
 | _,_,_,.cons r t,.cons r' t'=>by rw [r.inj r',Vals.inj t t']
section
variable {X:Cx} {pins:List (Addr × Obj)} {σ:St} {H:Hp} {s:Shared} {a:Addr} {xs ys:List V}
theorem SqL.of {K:ko} (h:H a=some (.lst xs)):SqL K H a xs:=.inl (.inl h)
theorem SqT.of {K:ko} (h:H a=some (.tup xs)):SqT K H a xs:=.inl (.inl h)
theorem Inv.list (I:Inv X pins σ H s) (h:SqL X.K H a xs):∃its:List Value,Vals xs its∧PlainL s.heap a its.toArray∧xs.length≤sizeLine:=by
 rcases h with h | ⟨o,its,n,hk,hc,hd,hs,hz,r⟩
 ·obtain ⟨z,its,n,r,e⟩:=h.ok I.hok
  exact ⟨its,r,⟨_,n,e,rfl,rfl,rfl⟩,z⟩
 ·refine ⟨its.toList,r,⟨o,n,I.kIn a o hk,hc,hd,by simpa using hs⟩,?_⟩
  have e:=r.length
  simp only [Array.length_toList] at e
  lia
theorem Inv.tuple (I:Inv X pins σ H s) (h:SqT X.K H a xs):∃its:List Value,Vals xs its∧IsTup s.heap a its.toArray∧xs.length≤sizeLine:=by
 rcases h with h | ⟨o,its,n,hk,hc,hs,hz,r⟩
 ·obtain ⟨z,its,r,p⟩:=h.ok I.hok
  exact ⟨its,r,p,z⟩
 ·refine ⟨its.toList,r,⟨o,I.kIn a o hk,hc,n,by simpa using hs⟩,?_⟩
  have e:=r.length
  simp only [Array.length_toList] at e
  lia
theorem Inv.list_inj (I:Inv X pins σ H s) (h:SqL X.K H a xs) (h':SqL X.K H a ys):xs=ys:=by
 obtain ⟨its,r,⟨o,n,e,_,_,d⟩,_⟩:=I.list h
 obtain ⟨its',r',⟨o',n',e',_,_,d'⟩,_⟩:=I.list h'
 rw [e] at e';cases e'
 rw [d] at d'
 injection d' with d1 _
 have:its=its':=by simpa using congrArg Array.toList d1
 subst this
 exact r.inj r'
end
noncomputable abbrev Cx.wish (X:Cx) (E:Value→Shared→Prop):Cx:={ X with xe:=E }
noncomputable abbrev Cx.nox (X:Cx):Cx:=X.wish fun _ _=>False
theorem Cx.Ok.wish {X:Cx} (ok:X.Ok) (E:Value→Shared→Prop):(X.wish E).Ok:=
 ⟨ok.mod,ok.kind,ok.glob,ok.blt,ok.above,ok.inj,ok.has,ok.cab,ok.hd,ok.frames,ok.stk,ok.exf,ok.bs,ok.bsz,ok.noex,ok.exfs,ok.funs,ok.frf⟩
theorem Cx.Ok.unwish {X:Cx} {E:Value→Shared→Prop} (ok:(X.wish E).Ok):X.Ok:=
 ⟨ok.mod,ok.kind,ok.glob,ok.blt,ok.above,ok.inj,ok.has,ok.cab,ok.hd,ok.frames,ok.stk,ok.exf,ok.bs,ok.bsz,ok.noex,ok.exfs,ok.funs,ok.frf⟩
section
variable {X:Cx} {pins:List (Addr × Obj)} {σ:St} {H:Hp} {s:Shared} {E:Value→Shared→Prop}
theorem Inv.wish (I:Inv X pins σ H s) (E:Value→Shared→Prop):Inv (X.wish E) pins σ H s:=⟨I.ok.wish E,I.os,I.bare,I.base,I.loc,I.cell,I.free,I.freeC,I.pin,I.hok,I.len⟩
theorem Inv.unwish (I:Inv (X.wish E) pins σ H s):Inv X pins σ H s:=⟨I.ok.unwish,I.os,I.bare,I.base,I.loc,I.cell,I.free,I.freeC,I.pin,I.hok,I.len⟩
theorem SP.unwish {D:Ends} {f:Flow} {s':Shared} (h:SP (X.wish E) pins D f s'):SP X pins D f s':=by
 cases f with
 | next=>obtain ⟨σ',H',I,q⟩:=h;exact ⟨σ',H',I.unwish,q⟩
 | brk=>obtain ⟨σ',H',I,q⟩:=h;exact ⟨σ',H',I.unwish,q⟩
 | cont=>obtain ⟨σ',H',I,q⟩:=h;exact ⟨σ',H',I.unwish,q⟩
 | ret u=>obtain ⟨v,σ',H',I,r,q⟩:=h;exact ⟨v,σ',H',I.unwish,r,q⟩
theorem PSs.nox {st:List Stmt} {t:TS} (h:PSs X.nox st t):PSs X st t:=fun pins s σ H D I hw=>
 wpAny_mono (h pins s σ H D (I.wish _) hw) (fun _ _ q=>q.unwish) fun _ _ z=>False.elim z
end
section
variable {X:Cx} {st:Stmt} {rest:List Stmt} {t u:TS} {e:Expr} {te:TE} {pos:Pos}
def z7G:TS:=fun D σ H=>D.nx σ H
def tSeq (t u:TS):TS:=fun D σ H=>t { D with nx:=u D } σ H
theorem zH:PSs X [] z7G:=fun _ _ σ H _ I h=>wpAny_execs_nil ⟨σ,H,I,h⟩
theorem z8 (h1:PS X st t) (h2:PSs X rest u):PSs X (st :: rest) (tSeq t u):=by
 intro pins s σ H D I h
 refine wpAny_execs_cons (thn (h1 pins s σ H { D with nx:=u D } I h) fun f s1 q=>?_)
 cases f with
 | next=>
  obtain ⟨σ',H',I',q⟩:=q
  exact h2 pins s1 σ' H' D I' q
 | ret v=>exact q
 | brk=>exact q
 | cont=>exact q
theorem zf (h1:PS X st t):PSs X [st] t:=by
 intro pins s σ H D I h
 refine wpAny_execs_cons (thn (h1 pins s σ H D I h) fun f s1 q=>?_)
 cases f with
 | next=>exact wpAny_execs_nil q
 | ret v=>exact q
 | brk=>exact q
 | cont=>exact q
theorem Inv.quiet {pins:List (Addr × Obj)} {σ:St} {H:Hp} {s:Shared} (I:Inv X pins σ H s):interactive X.env=false:=by simp [interactive,I.ok.kind]
def z6D (te:TE):TS:=fun D σ H=>te σ H fun _ H1=>D.nx σ H1
theorem zj (he:PE X e te) (hs:autoParam (swapsWith e none pos.line X.env=pure false) aR._auto_1):PS X (.Expr e pos) (z6D te):=by
 intro pins s σ H D I h
 exact wpAny_Expr_any (thn (he pins s σ H _ I h) fun v s1 ⟨x,H1,I1,r1,q1⟩=>⟨σ,H1,I1,q1⟩) I.quiet hs
def tRet (te:TE):TS:=fun D σ H=>te σ H D.rt
theorem zv (he:PE X e te):PS X (.Return (some e) pos) (tRet te):=by
 intro pins s σ H D I h
 exact wpAny_Return_some (thn (he pins s σ H _ I h) fun v s1 ⟨x,H1,I1,r1,q1⟩=>⟨x,σ,H1,I1,r1,q1⟩)
def tIfS (c:TT) (t u:TS):TS:=fun D σ H=>c σ H fun b H1=>if b=true then t D σ H1 else u D σ H1
theorem qg {c:Expr} {a b:List Stmt} {tc:TT} (hc:PT X c tc) (ha:PSs X a t) (hb:PSs X b u):PS X (.If c a b pos) (tIfS tc t u):=by
 intro pins s σ H D I h
 refine wpAny_If (thn (hc pins s σ H _ I h) fun d s1 zz=>?_)
 obtain ⟨H1,I1,q1⟩:=zz
 cases d with
 | true=>exact ha pins s1 σ H1 D I1 q1
 | false=>exact hb pins s1 σ H1 D I1 q1
def z6B:TS:=fun _ _ _=>False
theorem jx {sts:List Stmt}:PSs X sts z6B:=fun _ _ _ _ _ _ h=>h.elim
end
abbrev TG:=V→St→Hp→(St→Hp→Prop)→Prop
abbrev TGs:=List V→St→Hp→(St→Hp→Prop)→Prop
def PG (X:Cx) (target:Expr) (t:TG):Prop:=
 ∀(pins:List (Addr × Obj)) (s:Shared) (σ:St) (H:Hp) (v:V) (u:Value) (Q:St→Hp→Prop),Inv X pins σ H s→RelV v u→t v σ H Q→
  wpAny (model X.prog X.w) X.A (assign target X.env u) (fun _ s'=>∃σ' H',Inv X pins σ' H' s'∧Q σ' H') X.xe s
def PGs (X:Cx) (ts:List Expr) (t:TGs):Prop:=
 ∀(pins:List (Addr × Obj)) (s:Shared) (σ:St) (H:Hp) (vs:List V) (us:List Value) (Q:St→Hp→Prop),Inv X pins σ H s→Vals vs us→t vs σ H Q→
  wpAny (model X.prog X.w) X.A (assignInOrder ((assignEach ts X.env).map (·.2)) us) (fun _ s'=>∃σ' H',Inv X pins σ' H' s'∧Q σ' H') X.xe s
abbrev TSet:=V→V→V→Hp→(Hp→Prop)→Prop
def PSet (X:Cx) (t:TSet):Prop:=
 ∀(pins:List (Addr × Obj)) (s:Shared) (σ:St) (H:Hp) (o i v:V) (ov iv u:Value) (Q:Hp→Prop),Inv X pins σ H s→RelV o ov→RelV i iv→RelV v u→t o i v H Q→
  wpAny (model X.prog X.w) X.A (setItem ov iv u) (fun _ s'=>∃H',Inv X pins σ H' s'∧Q H') X.xe s
section
variable {X:Cx} {pos:Pos}
def z1U (i:Nat):TG:=fun v σ H Q=>Q (σ.set i (some v)) H
theorem zu {i:Nat} {x:Str} (hN:X.N.Nodup) (hi:X.N[i]?=some x) (hx:Loc X.env.scope x) (hf:X.fn x=true∨X.env.scope.names.lookup x=some .local:=by first | exact .inl rfl | exact .inr rfl | assumption):PG X (.Name x pos) (z1U i):=by
 intro pins s σ H v u Q I r h
 exact wpAny_assign_Name (ZS I hN hi hx r (fun s' I'=>⟨_,H,I',h⟩) hf)
def gNil:TGs:=fun vs σ H Q=>vs=[]∧Q σ H
def z82 (t:TG) (u:TGs):TGs:=fun vs σ H Q=>∃v r,vs=v :: r∧t v σ H fun σ' H'=>u r σ' H' Q
theorem qA:PGs X [] gNil:=by
 intro pins s σ H vs us Q I r h
 obtain ⟨e,h⟩:=h
 subst e
 cases r
 exact assignInOrder_nil ⟨σ,H,I,h⟩
theorem zA {e:Expr} {es:List Expr} {t:TG} {u:TGs} (h1:PG X e t) (h2:PGs X es u)
  (hs:autoParam ((assignEach (e :: es) X.env).map (·.2)=assign e X.env :: (assignEach es X.env).map (·.2)) aR._auto_1):PGs X (e :: es) (z82 t u):=by
 intro pins s σ H vs us Q I r h
 obtain ⟨v,vr,e1,h⟩:=h
 subst e1
 cases r with
 | cons r rr=>
  rw [hs]
  refine assignInOrder_cons (thn (h1 pins s σ H _ _ _ I r h) fun _ s1 zz=>?_)
  obtain ⟨σ1,H1,I1,q1⟩:=zz
  exact h2 pins s1 σ1 H1 _ _ Q I1 rr q1
def gTup (K:ko) (n:Nat) (t:TGs):TG:=fun v σ H Q=>∃a xs,v=.ref a∧SqT K H a xs∧xs.length=n∧t xs σ H Q
theorem jU {es:List Expr} {k:Nat} {t:TGs} {n:Nat} (hc:X.calm=true) (h:PGs X es t)
  (hn:autoParam ((assignEach es X.env).length=n) aR._auto_1) (hst:autoParam ((assignEach es X.env).findIdx? (·.1)=none) aR._auto_1):PG X (.Tuple es k pos) (gTup X.K n t):=by
 intro pins s σ H v u Q I r hw
 obtain ⟨a,xs,e1,hq,hl,hw⟩:=hw
 subst e1
 cases r
 obtain ⟨its,rv,ht,hz⟩:=I.tuple hq
 refine assign_Tuple_tuple (I.ok.hd hc) ht (by simp [hn,←hl,rv.length]) hst fun h' hx=>?_
 have I1:Inv X pins σ H { s with heap:=h' }:=I.kept (t':=s.toks) fun b o e=>hx b o (Nat.ne_of_lt (Heap.lt_size e)) e
 exact h pins _ σ H xs _ Q I1 (by simpa using rv) hw
def gSub (to ti:TE) (t:TSet):TG:=fun v σ H Q=>to σ H fun o H1=>ti σ H1 fun i H2=>t o i v H2 fun H3=>Q σ H3
theorem z0U {o i:Expr} {to ti:TE} {t:TSet} (ho:PE X o to) (hi:PE X i ti) (hs:PSet X t)
  (ha:∀v,assign (.Subscript o i pos) X.env v=(do
   let ov ←holding [v] (eval o X.env)
   let iv ←holding [v,ov] (eval i X.env)
   standAt pos
   holding [v,ov,iv] (setItem ov iv v)
   release [v,ov,iv] []):=by intro _;rfl):PG X (.Subscript o i pos) (gSub to ti t):=by
 intro pins s σ H v u Q I r h
 rw [ha]
 refine wpAny_bind (wpAny_holding (thn (ho pins s σ H _ I h) fun ov s1 zz=>?_))
 obtain ⟨x,H1,I1,r1,q1⟩:=zz
 refine wpAny_bind (wpAny_holding (thn (hi pins s1 σ H1 _ I1 q1) fun iv s2 zz=>?_))
 obtain ⟨y,H2,I2,r2,q2⟩:=zz
 refine wpAny_bind (wpAny_standAt (wpAny_bind (wpAny_holding (thn (hs pins s2 σ H2 x y v ov iv u _ I2 r1 r2 r q2) fun _ s3 zz=>?_))))
 obtain ⟨H3,I3,q3⟩:=zz
 exact wpAny_release ⟨σ,H3,I3,q3⟩
def tAsg (te:TE) (g:TG):TS:=fun D σ H=>te σ H fun x H1=>g x σ H1 D.nx
theorem ZG {tg e:Expr} {te:TE} {g:TG} (he:PE X e te) (hg:PG X tg g) (hs:autoParam (swapsWithSole [tg] e pos.line X.env=pure false) aR._auto_1) (hw:autoParam (swappedStores [tg] e X.env=pure none) aR._auto_1)
  (h1:autoParam ((assignEach [tg] X.env).map (·.2)=[assign tg X.env]) aR._auto_1):PS X (.Assign [tg] e pos) (tAsg te g):=by
 intro pins s σ H D I h
 refine wpAny_Assign_stores (thn (he pins s σ H _ I h) fun v s1 ⟨x,H1,I1,r1,q1⟩=>?_) hs hw
 rw [h1]
 exact thn (hg pins s1 σ H1 x v _ I1 r1 q1) fun _ s2 q=>q
theorem zC {i:Nat} {x:Str} {e:Expr} {te:TE} {pos':Pos} (hN:X.N.Nodup) (hi:X.N[i]?=some x) (hx:Loc X.env.scope x) (he:PE X e te) (hs:autoParam (swapsWith e (some (.Name x pos')) pos.line X.env=pure false) aR._auto_1) (hf:X.fn x=true∨X.env.scope.names.lookup x=some .local:=by first | exact .inl rfl | exact .inr rfl | assumption):
  PS X (.Assign [.Name x pos'] e pos) (tAsg te (z1U i)):=by
 intro pins s σ H D I h
 refine wpAny_Assign_Name (thn (he pins s σ H _ I h) fun v s1 ⟨y,H1,I1,r1,q1⟩=>?_) hs
 exact ZS I1 hN hi hx r1 (fun s2 I2=>⟨_,H1,I2,q1⟩) hf
def tPar (i j:Nat) (ta:TA):TS:=fun D σ H=>ta σ H fun vs H1=>∃v w,vs=[v,w]∧D.nx ((σ.set i (some v)).set j (some w)) H1
theorem Qz {i j:Nat} {x y:Str} {a b:Expr} {ta:TA} {px py pt:Pos} {kt k2 pt2} (hc:X.calm=true) (hN:X.N.Nodup) (hi:X.N[i]?=some x) (hj:X.N[j]?=some y) (hij:i≠j)
  (hx:X.env.scope.names.lookup x=some .local) (hy:X.env.scope.names.lookup y=some .local) (ha:PA X [a,b] ta)
  (hw:swappedStores [.Tuple [.Name x px,.Name y py] kt pt] (.Tuple [a,b] k2 pt2) X.env=pure (some [x,y]))
  (hs:autoParam (swapsWithSole [.Tuple [.Name x px,.Name y py] kt pt] (.Tuple [a,b] k2 pt2) pos.line X.env=pure false) aR._auto_1):
  PS X (.Assign [.Tuple [.Name x px,.Name y py] kt pt] (.Tuple [a,b] k2 pt2) pos) (tPar i j ta):=by
 intro pins s σ H D I h
 rw [exec_Assign_arm]
 refine wpAny_bind (wpAny_standAt ?_)
 rw [hs]
 refine wpAny_bind (wpAny_pure ?_)
 rw [kq (by decide)]
 refine wpAny_bind (Tuple_ (thn (ha _ pins s σ H _ I h) fun us s1 zz=>?_))
 obtain ⟨vs,H1,I1,r1,q1⟩:=zz
 obtain ⟨v,w,e1,q1⟩:=q1
 subst e1
 obtain ⟨u1,u2,rfl,rv,rw'⟩:∃u1 u2,us=[u1,u2]∧RelV v u1∧RelV w u2:=by
  cases r1 with
  | cons p q=>
   cases q with
   | cons p' q'=>
    cases q'
    exact ⟨_,_,rfl,p,p'⟩
 refine wpAny_newObj_type ?_ (by show 2≤sizeLine;decide)
 have I2:Inv X pins σ H1 { s1 with heap:=s1.heap.push { cls:=.type "tuple",data:=.seq [u1,u2].toArray } }:=I1.kept (t':=s1.toks) fun b o e=>Heap.get?_push_of_some _ e
 rw [hw]
 refine wpAny_bind (wpAny_pure ?_)
 show wpAny (model X.prog X.w) X.A (do rule "assign.swapped-stores";let items ←unpackItems (.ref s1.heap.objs.size) 2 none;assignInOrder [fun v=>bindName X.env y v,fun v=>bindName X.env x v] items.reverse;pure Flow.next) _ _ _
 refine wpAny_bind (wpAny_rule (wpAny_bind (unpackItems_tuple (items:=#[u1,u2]) (I.ok.hd hc) (IsTup.new s1.heap _) fun h' hx'=>?_)))
 have I3:=I2.kept (h':=h') (t':=s1.toks) fun b o e=>hx' b o (Nat.ne_of_lt (Heap.lt_size e)) e
 show wpAny _ _ (assignInOrder [fun v=>bindName X.env y v,fun v=>bindName X.env x v] [u2,u1] >>= fun _=>pure Flow.next) _ _ _
 refine wpAny_bind (assignInOrder_cons (wpAny_bindName (ZS I3 hN hj (.inl hy) rw' (fun s2 I4=>?_) (.inr hy))))
 refine assignInOrder_cons (wpAny_bindName (ZS I4 hN hi (.inl hx) rv (fun s3 I5=>assignInOrder_nil (wpAny_pure ?_)) (.inr hx)))
 rw [List.set_comm _ _ (Ne.symm hij)] at I5
 exact ⟨_,H1,I5,q1⟩
end
section
variable {X:Cx} {pos:Pos}
def z6z (c:TT) (tb:TS):TS:=fun D σ H=>∃W:Nat→St→Hp→Prop,(∃m,W m σ H)∧∀m σ H,W m σ H→
 c σ H fun b H1=>if b=true then ∃N:St→Hp→Prop,(∀σ' H',N σ' H'→∃m',m' < m∧W m' σ' H')∧tb { D with nx:=N,ct:=N,bk:=D.nx } σ H1 else D.nx σ H1
theorem QU {c:Expr} {body:List Stmt} {tc:TT} {tb:TS} (hp:PassesOwn (model X.prog X.w) X.A X.env X.xe) (hc:PT X c tc) (hb:PSs X body tb):PS X (.While c body [] pos) (z6z tc tb):=by
 intro pins s σ H D I h
 obtain ⟨W,⟨m0,w0⟩,turn⟩:=h
 refine wpAny_While (codeAny_whileLoop (fun n s'=>∃σ' H',Inv X pins σ' H' s'∧W n σ' H') ?_ m0 ⟨σ,H,I,w0⟩)
 rintro n s1 ⟨σ1,H1,I1,w1⟩
 refine wpAny_passesOwn hp (thn (hc pins s1 σ1 H1 _ I1 (turn n σ1 H1 w1)) fun b s2 zz=>?_)
 obtain ⟨H2,I2,q2⟩:=zz
 cases b with
 | true=>
  obtain ⟨N,hN,q2⟩:=q2
  rw [kr rfl]
  refine wpAny_passesOwn hp (thn (hb pins s2 σ1 H2 _ I2 q2) fun f s3 q3=>?_)
  cases f with
  | next=>
   obtain ⟨σ3,H3,I3,n3⟩:=q3
   obtain ⟨m',hm,w3⟩:=hN σ3 H3 n3
   exact ⟨m',hm,σ3,H3,I3,w3⟩
  | cont=>
   obtain ⟨σ3,H3,I3,n3⟩:=q3
   obtain ⟨m',hm,w3⟩:=hN σ3 H3 n3
   exact ⟨m',hm,σ3,H3,I3,w3⟩
  | brk=>exact q3
  | ret v=>exact q3
 | false=>
  rw [kq ka]
  exact wpAny_execs_nil ⟨σ1,H2,I2,q2⟩
end
structure It where
 go:Nat→Hp→Prop
 yld:Nat→Hp→V→Hp→Prop
 stop:Nat→Hp→Prop
def FpOk (X:Cx) (pins:List (Addr × Obj)) (H:Hp) (b:Addr):Prop:=
 H b=none∧b≠X.env.locals∧b∉X.fs∧(b∈X.ex∨X.s₀.heap.objs.size≤b)∧(∀x c,X.env.cells.lookup x=some c→c≠b)∧∀p∈X.pn++pins,p.1≠b
theorem Inv.fpOk {X:Cx} {pins:List (Addr × Obj)} {σ:St} {H H':Hp} {s:Shared} {b:Addr} (I:Inv X pins σ H s) (hb:s.heap.objs.size≤b) (hn:H' b=none):FpOk X pins H' b:=by
 refine ⟨hn,Nat.ne_of_gt (kI I.lt hb),I.nofs hb,.inr (kn I.sz hb),fun x c e z=>?_,fun p hp z=>?_⟩
 ·obtain ⟨v,q⟩:=I.cell x c e
  exact absurd (kI q.lt (by rw [z];exact hb)) (Nat.lt_irrefl _)
 ·exact absurd (kI (Heap.lt_size (I.pin p hp).1) (by rw [z];exact hb)) (Nat.lt_irrefl _)
structure Turn (P:Program) (w:World) (K:ko) (tg:Expr) (J:It) (fp:List Addr) (it:Addr) (tn:Nat→Heap→Prop):Prop where
 mem:it∈fp
 obj:∀i h,tn i h→∀b∈fp,∃o,h.get? b=some o∧∀v,o.data≠.cell v
 keep:∀i h h',tn i h→(∀b∈fp,∀o,h.get? b=some o→h'.get? b=some o)→tn i h'
 item:∀(X:Cx),X.prog=P→X.w=w→X.K=K→X.calm=true→∀(i:Nat) (pins:List (Addr × Obj)) (s:Shared) (σ:St) (H:Hp) (E:Value→Shared→Prop),Inv X pins σ H s→(∀b∈fp,FpOk X pins H b)→tn i s.heap→J.go i H→
  wpAny (model P w) X.A (pyNext (.ref it)) (fun r s1=>∃u,r=some u∧
   wpAny (model P w) X.A (letOwnedTupleGo tg (.ref it) u) (fun _ s2=>∃x H',Inv X pins σ H' s2∧RelV x u∧J.yld i H x H'∧tn (i+1) s2.heap∧∀b∈fp,H' b=none) E s1) E s
 done:∀(X:Cx),X.prog=P→X.w=w→X.K=K→X.calm=true→∀(i:Nat) (pins:List (Addr × Obj)) (s:Shared) (σ:St) (H:Hp) (E:Value→Shared→Prop),Inv X pins σ H s→(∀b∈fp,FpOk X pins H b)→tn i s.heap→J.stop i H→
  wpAny (model P w) X.A (pyNext (.ref it)) (fun r s1=>r=none∧Inv X pins σ H s1) E s
 self:∀(A:Around) (i:Nat) (s:Shared) (Q:Value→Shared→Prop) (E:Value→Shared→Prop),tn i s.heap→Q (.ref it) s→wpAny (model P w) A (pyIter (.ref it)) Q E s
abbrev TI:=St→Hp→(It→Hp→Prop)→Prop
def PIE (X:Cx) (pins:List (Addr × Obj)) (σ:St) (tg:Expr) (R:It→Hp→Prop) (itv:Value) (s2:Shared):Prop:=
 ∃(it:Addr) (fp:List Addr) (tn:Nat→Heap→Prop) (J:It) (H':Hp),itv=.ref it∧Inv X pins σ H' s2∧Turn X.prog X.w X.K tg J fp it tn∧tn 0 s2.heap∧(∀b∈fp,FpOk X pins H' b)∧R J H'
def PI (X:Cx) (tg iter:Expr) (wi:TI):Prop:=
 ∀(pins:List (Addr × Obj)) (s:Shared) (σ:St) (H:Hp) (R:It→Hp→Prop),Inv X pins σ H s→wi σ H R→
  wpAny (model X.prog X.w) X.A (eval iter X.env) (fun v s1=>wpAny (model X.prog X.w) X.A (pyIter v) (PIE X pins σ tg R) X.xe s1) X.xe s
theorem z60 {M:Model} {A:Around} {E:Value→Shared→Prop} {s:Shared} {tg:Expr} {it:Addr} {u:Value} {o:Obj} {n:String} {vs:Array Value} {Q:Unit→Shared→Prop} (ho:s.heap.get? it=some o) (hc:o.cls=.type n) (hd:o.data=.fields vs)
  (hn:["enumerate","zip","dict_itemiterator","dict_reverseitemiterator","odict_iterator","itertools.zip_longest","itertools.pairwise"].contains n=false) (hQ:Q () s):wpAny M A (letOwnedTupleGo tg (.ref it) u) Q E s:=by
 unfold letOwnedTupleGo
 cases tg <;> first
  | exact wpAny_pure hQ
  | (cases u <;> first
    | exact wpAny_pure hQ
    | (refine wpAny_bind (wpAny_load ho ?_);rw [hc,hd];show wpAny M A (if (["enumerate","zip","dict_itemiterator","dict_reverseitemiterator","odict_iterator","itertools.zip_longest","itertools.pairwise"].contains n&&vs[0]? == some (rawInt _))=true then _ else _) Q E s;rw [kq (by intro h;rw [hn,Bool.false_and] at h;cases h)];exact wpAny_pure hQ))
noncomputable def Itl (K:ko) (a:Addr):It:=
 ⟨fun i H=>∃xs x,SqL K H a xs∧xs[i]?=some x,fun i H x H'=>H'=H∧∀xs,SqL K H a xs→xs[i]?=some x,fun i H=>∃xs,SqL K H a xs∧xs.length≤i⟩
noncomputable def Itr (lo:Int) (n:Nat):It:=⟨fun i _=>i < n,fun i H x H'=>H'=H∧x=.int (lo+i),fun i _=>n≤i⟩
theorem z2h {P:Program} {w:World} {K:ko} {tg:Expr} (a it:Addr):Turn P w K tg (Itl K a) [it] it (fun i h=>h.IsListIter it a i) where
 mem:=by simp
 obj:=fun i h st b hb=>by
  have e:b=it:=by simpa using hb
  subst e
  obtain ⟨o,e,c,d⟩:=st
  exact ⟨o,e,fun v z=>by rw [d] at z;cases z⟩
 keep:=fun i h h' st k=>st.at fun o e=>k it (by simp) o e
 item:=by
  intro X hP hw hK hc i pins s σ H E I hf st hg
  subst hP hw hK
  obtain ⟨xs,x,hq,hx⟩:=hg
  obtain ⟨its,rv,p,hz⟩:=I.list hq
  obtain ⟨u,hu,ru⟩:=rv.get hx
  obtain ⟨f0,f1,f2,f3,f4,f5⟩:=hf it (by simp)
  refine wpAny_pyNext_list_item st p.isList (x:=u) (by simpa using hu) fun h' st' sb=>?_
  have I1:Inv X pins σ H { s with heap:=h' }:=I.turned (t':=s.toks) (fun b o hb e=>(sb.2 b hb).trans e) f0 f1 f3 f4 f5
  obtain ⟨o,e,c,d⟩:=id st'
  exact ⟨u,rfl,z60 (s:={ s with heap:=h' }) e c d (by decide) ⟨x,H,I1,ru,⟨rfl,fun ys hy=>by rw [I.list_inj hy hq];exact hx⟩,st',fun b hb=>(hf b hb).1⟩⟩
 done:=by
  intro X hP hw hK hc i pins s σ H E I hf st hg
  subst hP hw hK
  obtain ⟨xs,hq,hx⟩:=hg
  obtain ⟨its,rv,p,hz⟩:=I.list hq
  obtain ⟨f0,f1,f2,f3,f4,f5⟩:=hf it (by simp)
  have hl:=rv.length
  exact wpAny_pyNext_list_end (I.ok.hd hc) st p.isList (by simp;lia) fun h' eb=>⟨rfl,I.turned (t':=s.toks) (fun b o hb e=>eb b o hb e) f0 f1 f3 f4 f5⟩
 self:=fun _ _ _ _ _ st h=>wpAny_pyIter_listiter st h
theorem z1s {P:Program} {w:World} {K:ko} {tg:Expr} (it:Addr) (lo:Int) (n:Nat):Turn P w K tg (Itr lo n) [it] it (fun i h=>IsRangeIter h it (lo+(i:Nat) * 1) ((n:Int) - (i:Nat)) 1) where
 mem:=by simp
 obj:=fun i h st b hb=>by
  have e:b=it:=by simpa using hb
  subst e
  exact ⟨_,st,fun v z=>by
   have z':Data.fields _=Data.cell v:=z
   cases z'⟩
 keep:=fun i h h' st k=>k it (by simp) _ st
 item:=by
  intro X hP hw hK hc i pins s σ H E I hf st hg
  subst hP hw hK
  obtain ⟨f0,f1,f2,f3,f4,f5⟩:=hf it (by simp)
  have W:=Walks.range (prog:=X.prog) (w:=X.w) (I.ok.hd hc) it lo 1 n
  refine W.item i s _ _ hg st fun v h' tk hv st' kk=>?_
  obtain ⟨t,rfl⟩:=hv
  have I1:Inv X pins σ H { s with heap:=h',toks:=tk }:=I.turned (fun b o hb e=>kk b o (by simpa using hb) e) f0 f1 f3 f4 f5
  refine ⟨_,rfl,z60 (s:={ s with heap:=h',toks:=tk }) (n:="range_iterator") st' rfl rfl (by decide) ⟨.int (lo+i),H,I1,⟨t,?_⟩,⟨rfl,rfl⟩,st',fun b hb=>(hf b hb).1⟩⟩
  rw [Int.mul_one]
 done:=by
  intro X hP hw hK hc i pins s σ H E I hf st hg
  subst hP hw hK
  obtain ⟨f0,f1,f2,f3,f4,f5⟩:=hf it (by simp)
  exact wpAny_pyNext_range_end (I.ok.hd hc) st (by have:n≤i:=hg;lia) fun h' eb=>⟨rfl,I.turned (t':=s.toks) (fun b o hb e=>eb b o hb e) f0 f1 f3 f4 f5⟩
 self:=fun _ _ _ _ _ st h=>wpAny_pyIter_rangeiter st h
end L2
namespace L2
open PySem PySem.Spec PyProof.Rows
section
variable {X:Cx} {tg:Expr}
def z7f (K:ko) (tl:TE):TI:=fun σ H R=>tl σ H fun x H1=>∃a,x=.ref a∧(∃xs,SqL K H1 a xs)∧R (Itl K a) H1
theorem jd {l:Expr} {tl:TE} (hl:PE X l tl):PI X tg l (z7f X.K tl):=by
 intro pins s σ H R I h
 refine thn (hl pins s σ H _ I h) fun v s1 zz=>?_
 obtain ⟨x,H1,I1,r1,q1⟩:=zz
 obtain ⟨a,e,⟨xs,hq⟩,q⟩:=q1
 subst e
 cases r1
 obtain ⟨its,rv,p,hz⟩:=I1.list hq
 refine wpAny_pyIter_list p.isList ?_
 refine ⟨s1.heap.objs.size,[s1.heap.objs.size],_,_,H1,rfl,I1.kept (t':=s1.toks) fun b o e=>Heap.get?_push_of_some _ e,z2h a _,⟨_,Heap.get?_push_size _ rfl,rfl,rfl⟩,fun b hb=>?_,q⟩
 have e:b=s1.heap.objs.size:=by simpa using hb
 subst e
 exact I1.fpOk (kc _) (I1.hok.fresh (kc _))
theorem z0R {pins:List (Addr × Obj)} {σ:St} {H:Hp} {s:Shared} {R:It→Hp→Prop} {E:Value→Shared→Prop} {lo hi:Int} {t u v:Tok} {tk:Nat} (I:Inv X pins σ H s) (h1: -(2 ^ 62)≤lo) (h2:lo < 2 ^ 62) (h3: -(2 ^ 62)≤hi) (h4:hi < 2 ^ 62)
  (q:R (Itr lo (hi - lo).toNat) H):wpAny (model X.prog X.w) X.A (pyIter (.ref s.heap.objs.size)) (PIE X pins σ tg R) E { s with heap:=s.heap.push { cls:=.type "range",data:=.fields #[.int lo t,.int hi u,.int 1 v] },toks:=tk }:=by
 refine wpAny_pyIter_range (IsRange.new ..) (small_one h1 h2 h3 h4) ?_
 have I1:Inv X pins σ H { s with heap:=s.heap.push { cls:=.type "range",data:=.fields #[.int lo t,.int hi u,.int 1 v] },toks:=tk }:=I.kept fun b o e=>Heap.get?_push_of_some _ e
 refine ⟨(s.heap.push { cls:=.type "range",data:=.fields #[.int lo t,.int hi u,.int 1 v] }).objs.size,[(s.heap.push { cls:=.type "range",data:=.fields #[.int lo t,.int hi u,.int 1 v] }).objs.size],_,_,H,rfl,
  I1.kept (t':=tk) fun b o e=>Heap.get?_push_of_some _ e,z1s _ lo (hi - lo).toNat,?_,fun b hb=>?_,q⟩
 ·have e1:lo+((0:Nat):Int) * 1=lo:=by simp
  have e2:(((hi - lo).toNat:Nat):Int) - ((0:Nat):Int)=Builtin.Range.rangeSize lo hi 1:=by rw [rangeSize_one];split <;> lia
  show IsRangeIter _ _ (lo+((0:Nat):Int) * 1) ((((hi - lo).toNat:Nat):Int) - ((0:Nat):Int)) 1
  rw [e1,e2]
  exact Heap.get?_push_size _ rfl
 ·have e:b=(s.heap.push { cls:=.type "range",data:=.fields #[.int lo t,.int hi u,.int 1 v] }).objs.size:=by simpa using hb
  subst e
  exact I1.fpOk (kc _) (I1.hok.fresh (kc _))
def z7e (ta:TA):TI:=fun σ H R=>ta σ H fun vs H1=>∃j:Int,vs=[.int j]∧-(2 ^ 62)≤j∧j < 2 ^ 62∧R (Itr 0 j.toNat) H1
def z7Z (ta:TA):TI:=fun σ H R=>ta σ H fun vs H1=>∃i j:Int,vs=[.int i,.int j]∧(-(2 ^ 62)≤i∧i < 2 ^ 62∧-(2 ^ 62)≤j∧j < 2 ^ 62)∧R (Itr i (j - i).toNat) H1
theorem qM {a:Expr} {ta:TA} {p pos:Pos} (hg:Gl X "range") (hm:X.mg "range"=none) (ha:PA X [a] ta) (hs:autoParam (starEach [a] X.env=[(false,eval a X.env)]) aR._auto_1):PI X tg (.Call (.Name "range" p) [a] [] pos) (z7e ta):=by
 intro pins s σ H R I h
 refine Call_ (ZK I hg hm boot_range (PyProof.Rows.callWith_type1 (thn (ha pos pins s σ H _ I h) fun us s1 ⟨vs,H1,I1,r1,q1⟩=>?_) hs rfl))
 obtain ⟨j,e,q1,q2,q⟩:=q1
 subst e
 cases r1 with
 | cons r rr=>
  cases rr
  obtain ⟨t,rfl⟩:=r
  exact call_range_1 (z0R I1 (by lia) (by lia) q1 q2 (by simpa using q))
theorem z2O {a b:Expr} {ta:TA} {p pos:Pos} (hg:Gl X "range") (hm:X.mg "range"=none) (ha:PA X [a,b] ta) (hs:autoParam (starEach [a,b] X.env=[(false,eval a X.env),(false,eval b X.env)]) aR._auto_1) (hs2:autoParam (starEach [b] X.env=[(false,eval b X.env)]) aR._auto_1):
  PI X tg (.Call (.Name "range" p) [a,b] [] pos) (z7Z ta):=by
 intro pins s σ H R I h
 refine Call_ (ZK I hg hm boot_range (PyProof.Rows.callWith_type1 (thn (ha pos pins s σ H _ I h) fun us s1 ⟨vs,H1,I1,r1,q1⟩=>?_) (by rw [hs,hs2]) (by rw [hs2];rfl)))
 obtain ⟨i,j,e,⟨q1,q2,q3,q4⟩,q⟩:=q1
 subst e
 cases r1 with
 | cons r rr=>
  cases rr with
  | cons r' rr=>
   cases rr
   obtain ⟨t,rfl⟩:=r
   obtain ⟨t',rfl⟩:=r'
   exact call_range_2 (z0R I1 q1 q2 q3 q4 q)
def tFor (wi:TI) (g:TG) (tb:TS):TS:=fun D σ H=>wi σ H fun J H1=>∃W:Nat→Nat→St→Hp→Prop,(∃m,W 0 m σ H1)∧∀i m σ H,W i m σ H→
 (J.stop i H∧D.nx σ H)∨(J.go i H∧∃N:St→Hp→Prop,(∀σ' H',N σ' H'→∃m',m' < m∧W (i+1) m' σ' H')∧∀x H',J.yld i H x H'→g x σ H' fun σ2 H2=>tb { D with nx:=N,ct:=N,bk:=D.nx } σ2 H2)
noncomputable def ZH (fp:List Addr) (h:Heap):List (Addr × Obj):=fp.filterMap fun b=>(h.get? b).map fun o=>(b,o)
theorem ql {fp:List Addr} {h:Heap} {b:Addr} {o:Obj} (hb:b∈fp) (e:h.get? b=some o):(b,o)∈ZH fp h:=List.mem_filterMap.mpr ⟨b,hb,by rw [e];rfl⟩
theorem z2X {fp:List Addr} {h:Heap} {p:Addr × Obj} (hp:p∈ZH fp h):p.1∈fp∧h.get? p.1=some p.2:=by
 obtain ⟨b,hb,e⟩:=List.mem_filterMap.mp hp
 cases q:h.get? b with
 | none=>rw [q] at e;cases e
 | some o=>
  rw [q] at e
  have e':(b,o)=p:=ku e
  subst e'
  exact ⟨hb,q⟩
theorem Inv.pinned {pins:List (Addr × Obj)} {σ:St} {H:Hp} {s:Shared} {fp:List Addr} (I:Inv X pins σ H s) (hf:∀b∈fp,FpOk X pins H b) (ho:∀b∈fp,∃o,s.heap.get? b=some o∧∀v,o.data≠.cell v):Inv X (pins++ZH fp s.heap) σ H s:=
 I.pins_of fun p hp=>(kO.mp hp).elim (fun z=>I.pin p (kJ _ z)) fun z=>by
  obtain ⟨hb,e⟩:=z2X z
  obtain ⟨f0,f1,f2,_⟩:=hf p.1 hb
  obtain ⟨o,e',d⟩:=ho p.1 hb
  rw [e] at e';cases e'
  exact ⟨e,f0,f1,f2,d⟩
theorem Inv.unpinned {pins pl:List (Addr × Obj)} {σ:St} {H:Hp} {s:Shared} (I:Inv X (pins++pl) σ H s):Inv X pins σ H s:=I.pins_of fun p hp=>I.pin p (kJ _ (kK _ hp))
theorem jf {iter:Expr} {body:List Stmt} {wi:TI} {g:TG} {tb:TS} {pos:Pos} (hp:PassesOwn (model X.prog X.w) X.A X.env X.xe) (hc:X.calm=true) (hi:PI X tg iter wi) (hg:PG X tg g) (hb:PSs X body tb)
  (hs:∀x,foldedSetIterable iter X.env x=pure x:=by intro _;rfl):PS X (.For tg iter body [] pos) (tFor wi g tb):=by
 intro pins s σ H D I h
 refine wpAny_For (thn (hi pins s σ H _ I h) fun v s1 h1=>thn h1 fun itv s2 h2=>?_) hs
 obtain ⟨it,fp,tn,J,H2,e,I2,T,st2,f2,W,⟨m0,w0⟩,turn⟩:=h2
 subst e
 have stat:∀{H':Hp},(∀b∈fp,H' b=none)→∀b∈fp,FpOk X pins H' b:=fun hn b hb=>⟨hn b hb,(f2 b hb).2⟩
 refine codeAny_forLoop_any (fun n s'=>∃i σ' H',Inv X pins σ' H' s'∧tn i s'.heap∧(∀b∈fp,H' b=none)∧W i n σ' H') ?_ m0 ⟨0,σ,H2,I2,st2,fun b hb=>(f2 b hb).1,w0⟩
 rintro n s3 ⟨i,σ3,H3,I3,st3,fr3,w3⟩
 rcases turn i n σ3 H3 w3 with ⟨stop,qn⟩ | ⟨go,N,hN,step⟩
 ·refine wpAny_passesOwn hp (thn (T.done X rfl rfl rfl hc i pins s3 σ3 H3 X.xe I3 (stat fr3) st3 stop) fun r s4 zz=>?_)
  obtain ⟨hr,I4⟩:=zz
  subst hr
  exact wpAny_execs_nil ⟨σ3,H3,I4,qn⟩
 ·refine wpAny_passesOwn hp (thn (T.item X rfl rfl rfl hc i pins s3 σ3 H3 X.xe I3 (stat fr3) st3 go) fun r s4 zz=>?_)
  obtain ⟨u,hr,h4⟩:=zz
  subst hr
  refine wpAny_passesOwn hp (thn h4 fun _ s5 zz=>?_)
  obtain ⟨x,H5,I5,r5,y5,st5,fr5⟩:=zz
  have I5':=I5.pinned (stat fr5) (T.obj _ _ st5)
  refine wpAny_passesOwn hp (thn (hg _ s5 σ3 H5 x u _ I5' r5 (step x H5 y5)) fun _ s6 zz=>?_)
  obtain ⟨σ6,H6,I6,q6⟩:=zz
  refine wpAny_passesOwn hp (thn (hb _ s6 σ6 H6 _ I6 q6) fun f s7 q7=>?_)
  have again:∀{σ7:St} {H7:Hp},Inv X (pins++ZH fp s5.heap) σ7 H7 s7→N σ7 H7→∃m,m < n∧∃i σ' H',Inv X pins σ' H' s7∧tn i s7.heap∧(∀b∈fp,H' b=none)∧W i m σ' H':=fun {σ7 H7} I7 n7=>by
   obtain ⟨m',hm,w7⟩:=hN σ7 H7 n7
   refine ⟨m',hm,i+1,σ7,H7,I7.unpinned,T.keep _ _ _ st5 fun b hb o e=>(I7.pin (b,o) (kJ _ (kJ _ (ql hb e)))).1,fun b hb=>?_,w7⟩
   obtain ⟨o,e,d⟩:=T.obj _ _ st5 b hb
   exact (I7.pin (b,o) (kJ _ (kJ _ (ql hb e)))).2.1
  cases f with
  | next=>obtain ⟨σ7,H7,I7,n7⟩:=q7;exact again I7 n7
  | cont=>obtain ⟨σ7,H7,I7,n7⟩:=q7;exact again I7 n7
  | brk=>obtain ⟨σ7,H7,I7,q7⟩:=q7;exact ⟨σ7,H7,I7.unpinned,q7⟩
  | ret v=>obtain ⟨x7,σ7,H7,I7,r7,q7⟩:=q7;exact ⟨x7,σ7,H7,I7.unpinned,r7,q7⟩
end
theorem Ja {K:ko} {a:Addr} {xs:List V} {g:TG} {tb:TS} {D:Ends} {σ:St} {H:Hp} (Pv:Nat→St→Hp→Prop) (h0:Pv 0 σ H) (hl:∀i σ H,i≤xs.length→Pv i σ H→SqL K H a xs)
  (hs:∀i x σ H,xs[i]?=some x→Pv i σ H→g x σ H fun σ2 H2=>tb { D with nx:=Pv (i+1),ct:=Pv (i+1),bk:=D.nx } σ2 H2) (hd:∀σ H,Pv xs.length σ H→D.nx σ H):
  ∃W:Nat→Nat→St→Hp→Prop,(∃m,W 0 m σ H)∧∀i m σ H,W i m σ H→
   ((Itl K a).stop i H∧D.nx σ H)∨((Itl K a).go i H∧∃N:St→Hp→Prop,(∀σ' H',N σ' H'→∃m',m' < m∧W (i+1) m' σ' H')∧∀x H',(Itl K a).yld i H x H'→g x σ H' fun σ2 H2=>tb { D with nx:=N,ct:=N,bk:=D.nx } σ2 H2):=by
 refine ⟨fun i m σ H=>m=xs.length - i∧i≤xs.length∧Pv i σ H,⟨xs.length,by simp,Nat.zero_le _,h0⟩,?_⟩
 rintro i m σ H ⟨rfl,hi,p⟩
 have q:=hl i σ H hi p
 by_cases hlt:i < xs.length
 ·refine .inr ⟨⟨xs,xs[i],q,by simp [hlt]⟩,Pv (i+1),fun σ' H' p'=>⟨xs.length - (i+1),by lia,rfl,hlt,p'⟩,fun x H' y=>?_⟩
  obtain ⟨e,y⟩:=y
  subst e
  exact hs i x σ _ (y xs q) p
 ·have e:i=xs.length:=by lia
  subst e
  exact .inl ⟨⟨xs,q,kc _⟩,hd σ H p⟩
theorem jj {lo:Int} {n:Nat} {g:TG} {tb:TS} {D:Ends} {σ:St} {H:Hp} (Pv:Nat→St→Hp→Prop) (h0:Pv 0 σ H)
  (hs:∀i σ H,i < n→Pv i σ H→g (.int (lo+i)) σ H fun σ2 H2=>tb { D with nx:=Pv (i+1),ct:=Pv (i+1),bk:=D.nx } σ2 H2) (hd:∀σ H,Pv n σ H→D.nx σ H):
  ∃W:Nat→Nat→St→Hp→Prop,(∃m,W 0 m σ H)∧∀i m σ H,W i m σ H→
   ((Itr lo n).stop i H∧D.nx σ H)∨((Itr lo n).go i H∧∃N:St→Hp→Prop,(∀σ' H',N σ' H'→∃m',m' < m∧W (i+1) m' σ' H')∧∀x H',(Itr lo n).yld i H x H'→g x σ H' fun σ2 H2=>tb { D with nx:=N,ct:=N,bk:=D.nx } σ2 H2):=by
 refine ⟨fun i m σ H=>m=n - i∧i≤n∧Pv i σ H,⟨n,by simp,Nat.zero_le _,h0⟩,?_⟩
 rintro i m σ H ⟨rfl,hi,p⟩
 by_cases hlt:i < n
 ·refine .inr ⟨hlt,Pv (i+1),fun σ' H' p'=>⟨n - (i+1),by lia,rfl,hlt,p'⟩,fun x H' y=>?_⟩
  obtain ⟨e,y⟩:=y
  subst e y
  exact hs i σ _ hlt p
 ·have e:i=n:=by lia
  subst e
  exact .inl ⟨kc _,hd σ H p⟩
end L2
namespace L2
open PySem PySem.Spec PyProof.Rows
abbrev R2:=V→V→Hp→VK→Prop
def OpR (X:Cx) (f:Value→Value→Sem Value) (r:R2):Prop:=
 ∀(pins:List (Addr × Obj)) (s:Shared) (σ:St) (H:Hp) (x y:V) (v u:Value) (Q:VK),Inv X pins σ H s→RelV x v→RelV y u→r x y H Q→
  wpAny (model X.prog X.w) X.A (f v u) (EP X pins σ Q) X.xe s
def UnR (X:Cx) (f:Value→Sem Value) (r:V→Hp→VK→Prop):Prop:=
 ∀(pins:List (Addr × Obj)) (s:Shared) (σ:St) (H:Hp) (x:V) (v:Value) (Q:VK),Inv X pins σ H s→RelV x v→r x H Q→
  wpAny (model X.prog X.w) X.A (f v) (EP X pins σ Q) X.xe s
def Jl (X:Cx) (f:Value) (r:List V→Hp→VK→Prop):Prop:=
 ∀(pins:List (Addr × Obj)) (s:Shared) (σ:St) (H:Hp) (xs:List V) (us:List Value) (Q:VK),Inv X pins σ H s→Vals xs us→r xs H Q→
  wpAny (model X.prog X.w) X.A (call f us) (EP X pins σ Q) X.xe s
def TruR (X:Cx) (r:V→Hp→(Bool→Hp→Prop)→Prop):Prop:=
 ∀(pins:List (Addr × Obj)) (s:Shared) (σ:St) (H:Hp) (x:V) (v:Value) (Q:Bool→Hp→Prop),Inv X pins σ H s→RelV x v→r x H Q→
  wpAny (model X.prog X.w) X.A (truthy v) (TP X pins σ Q) X.xe s
def tOp (r:R2) (ta tb:TE):TE:=fun σ H Q=>ta σ H fun x H1=>tb σ H1 fun y H2=>r x y H2 Q
def tUn (r:V→Hp→VK→Prop) (ta:TE):TE:=fun σ H Q=>ta σ H fun x H1=>r x H1 Q
def rI (C:Int→Int→Prop) (g:Int→Int→V):R2:=fun x y H Q=>∃i j,x=.int i∧y=.int j∧C i j∧Q (g i j) H
def rI0 (g:Int→Int→V):R2:=fun x y H Q=>∃i j,x=.int i∧y=.int j∧Q (g i j) H
def rU (g:Int→V):V→Hp→VK→Prop:=fun x H Q=>∃i,x=.int i∧Q (g i) H
section
variable {X:Cx} {a b c:Expr} {ta tb tc:TE} {pos:Pos}
theorem binT (ha:PE X a ta) (hb:PE X b tb) {pins:List (Addr × Obj)} {s:Shared} {σ:St} {H:Hp} {R:V→V→Hp→Prop} (I:Inv X pins σ H s)
  (h:ta σ H fun x H1=>tb σ H1 fun y H2=>R x y H2) {Q:Value→Shared→Prop} {f:Value→Value→Sem Value}
  (hf:∀v u s2 x y H2,Inv X pins σ H2 s2→RelV x v→RelV y u→R x y H2→wpAny (model X.prog X.w) X.A (f v u) Q X.xe s2):
  wpAny (model X.prog X.w) X.A (eval a X.env) (fun v s₁=>wpAny (model X.prog X.w) X.A (eval b X.env) (fun u s₂=>wpAny (model X.prog X.w) X.A (f v u) Q X.xe s₂) X.xe s₁) X.xe s:=by
 refine thn (ha pins s σ H _ I h) fun v s1 zz=>?_
 obtain ⟨x,H1,I1,r1,q1⟩:=zz
 refine thn (hb pins s1 σ H1 _ I1 q1) fun u s2 zz=>?_
 obtain ⟨y,H2,I2,r2,q2⟩:=zz
 exact hf v u s2 x y H2 I2 r1 r2 q2
theorem zO {op:Operator} {r:R2} (ho:OpR X (binaryOp op) r) (ha:PE X a ta) (hb:PE X b tb):PE X (.BinOp a op b pos) (tOp r ta tb):=by
 intro pins s σ H Q I h
 exact wpAny_BinOp (binT ha hb I h fun v u s2 x y H2 I2 rx ry q=>ho pins s2 σ H2 x y v u Q I2 rx ry q)
theorem JC {op:UnaryOp} {r:V→Hp→VK→Prop} (ho:UnR X (unaryOp op) r) (ha:PE X a ta):PE X (.UnaryOp op a pos) (tUn r ta):=by
 intro pins s σ H Q I h
 exact UnaryOp_ (thn (ha pins s σ H _ I h) fun v s1 ⟨x,H1,I1,r1,q1⟩=>ho pins s1 σ H1 x v Q I1 r1 q1)
theorem opI {f:Value→Value→Sem Value} {C:Int→Int→Prop} {g:Int→Int→Int}
  (rule:∀(i j:Int) (t u:Tok) (s:Shared) (Q:Value→Shared→Prop) (E:Value→Shared→Prop),C i j→Q (.int (g i j) s.toks) { s with toks:=s.toks+1 }→wpAny (model X.prog X.w) X.A (f (.int i t) (.int j u)) Q E s):
  OpR X f (rI C fun i j=>.int (g i j)):=by
 intro pins s σ H x y v u Q I rx ry h
 obtain ⟨i,j,rfl,rfl,hc,q⟩:=h
 obtain ⟨t,rfl⟩:=rx
 obtain ⟨t',rfl⟩:=ry
 exact rule i j t t' s _ _ hc ⟨.int (g i j),H,I.tok _,⟨_,rfl⟩,q⟩
theorem opI0 {f:Value→Value→Sem Value} {g:Int→Int→Int}
  (rule:∀(i j:Int) (t u:Tok) (s:Shared) (Q:Value→Shared→Prop) (E:Value→Shared→Prop),Q (.int (g i j) s.toks) { s with toks:=s.toks+1 }→wpAny (model X.prog X.w) X.A (f (.int i t) (.int j u)) Q E s):
  OpR X f (rI0 fun i j=>.int (g i j)):=by
 intro pins s σ H x y v u Q I rx ry h
 obtain ⟨i,j,rfl,rfl,q⟩:=h
 obtain ⟨t,rfl⟩:=rx
 obtain ⟨t',rfl⟩:=ry
 exact rule i j t t' s _ _ ⟨.int (g i j),H,I.tok _,⟨_,rfl⟩,q⟩
theorem opB0 {f:Value→Value→Sem Value} {g:Int→Int→Bool}
  (rule:∀(i j:Int) (t u:Tok) (s:Shared) (Q:Value→Shared→Prop) (E:Value→Shared→Prop),Q (.bool (g i j)) s→wpAny (model X.prog X.w) X.A (f (.int i t) (.int j u)) Q E s):
  OpR X f (rI0 fun i j=>.bl (g i j)):=by
 intro pins s σ H x y v u Q I rx ry h
 obtain ⟨i,j,rfl,rfl,q⟩:=h
 obtain ⟨t,rfl⟩:=rx
 obtain ⟨t',rfl⟩:=ry
 exact rule i j t t' s _ _ ⟨.bl (g i j),H,I,rfl,q⟩
def CDiv (i j:Int):Prop:=0 < j∧j < 1073741824
def CPow (i j:Int):Prop:=0≤j∧j≤1000000∧i.natAbs < 2 ^ 64
def CMul (i j:Int):Prop:=(-(2 ^ 64) < i∧i < 2 ^ 64)∨(-(2 ^ 64) < j∧j < 2 ^ 64)
theorem CMul.ok {i j:Int} (h:CMul i j):IntMulOk i j:=by
 rcases h with ⟨h1,h2⟩ | ⟨h1,h2⟩
 ·exact .of_left (intBits_le_64 h1 h2)
 ·exact .of_right (intBits_le_64 h1 h2)
theorem ja:OpR X (binaryOp .Add) (rI0 fun i j=>.int (i+j)):=opI0 fun _ _ _ _ _ _ _ q=>add_int q
theorem j3:OpR X (binaryOp .Sub) (rI0 fun i j=>.int (i - j)):=opI0 fun _ _ _ _ _ _ _ q=>sub_int q
theorem z12:OpR X (binaryOp .Mult) (rI CMul fun i j=>.int (i * j)):=opI fun _ _ _ _ _ _ _ hc q=>mul_int q hc.ok
theorem Qe:OpR X (binaryOp .FloorDiv) (rI CDiv fun i j=>.int (i / j)):=opI fun i j _ _ _ _ _ hc q=>by
 have h1:(0:Int) < j:=hc.1
 have h2:j < 1073741824:=hc.2
 exact floordiv_int (by lia) (by rw [Int.fdiv_eq_ediv_of_nonneg i (by lia)];exact q) (.inl (PyProof.noPylong_small (by lia)))
theorem Qd:OpR X (binaryOp .Mod) (rI (fun _ j=>0 < j) fun i j=>.int (i % j)):=opI fun i j _ _ _ _ _ hc q=>by
 have h1:(0:Int) < j:=hc
 exact mod_int' (by lia) (by rw [Int.fmod_eq_emod_of_nonneg i (by lia)];exact q)
theorem z2U:OpR X (binaryOp .Pow) (rI CPow fun i j=>.int (i ^ j.toNat)):=opI fun _ _ _ _ _ _ _ hc q=>pow_int_small hc.1 hc.2.1 hc.2.2 q
theorem unI {f:Value→Sem Value} {g:Int→Int}
  (rule:∀(i:Int) (t:Tok) (s:Shared) (Q:Value→Shared→Prop) (E:Value→Shared→Prop),Q (.int (g i) s.toks) { s with toks:=s.toks+1 }→wpAny (model X.prog X.w) X.A (f (.int i t)) Q E s):
  UnR X f (rU fun i=>.int (g i)):=by
 intro pins s σ H x v Q I rx h
 obtain ⟨i,rfl,q⟩:=h
 obtain ⟨t,rfl⟩:=rx
 exact rule i t s _ _ ⟨.int (g i),H,I.tok _,⟨_,rfl⟩,q⟩
theorem ZF:UnR X (unaryOp .USub) (rU fun i=>.int (-i)):=unI fun _ _ _ _ _ q=>neg_int q
end
noncomputable def scal:V→V→Bool
 | .non,.non=>true | .non,.int _=>true | .int _,.non=>true | .non,.bl _=>true | .bl _,.non=>true | .non,.str _=>true | .str _,.non=>true
 | .int _,.int _=>true | .bl _,.bl _=>true | .str _,.str _=>true | .byt _,.byt _=>true
 | .int _,.str _=>true | .str _,.int _=>true | .bl _,.str _=>true | .str _,.bl _=>true
 | _,_=>false
def rEq:R2:=fun x y H Q=>scal x y=true∧Q (.bl (decide (x=y))) H
def rNe:R2:=fun x y H Q=>scal x y=true∧Q (.bl (!decide (x=y))) H
theorem z3z {i j:Int}:decide (V.int i=V.int j)=(i == j):=by
 rw [Bool.eq_iff_iff]
 simp
theorem z5n {i j:Bool}:decide (V.bl i=V.bl j)=(i == j):=by
 rw [Bool.eq_iff_iff]
 simp
theorem z3y {i j:Str}:decide (V.str i=V.str j)=(i == j):=by
 rw [Bool.eq_iff_iff]
 simp
theorem z3A {i j:Array UInt8}:decide (V.byt i=V.byt j)=(i.toList == j.toList):=by
 rw [Bool.eq_iff_iff]
 cases i
 cases j
 simp
section
variable {X:Cx} {a b c:Expr} {ta tb tc:TE} {pos:Pos}
theorem zY {pins:List (Addr × Obj)} {σ:St} {H:Hp} {s:Shared} {Q:VK} {k k':Bool} (I:Inv X pins σ H s) (q:Q (.bl k) H) (e:k=k'):EP X pins σ Q (.bool k') s:=by
 subst e
 exact ⟨.bl k,H,I,rfl,q⟩
theorem jA:OpR X (compareOp .Eq) rEq:=by
 intro pins s σ H x y v u Q I rx ry h
 obtain ⟨hs,q⟩:=h
 cases x with
 | non=>
  cases rx
  cases y with
  | non=>cases ry;exact PySem.EqNone.eq_none_none (zY I q (by simp))
  | bl j=>cases ry;exact PySem.EqNone.eq_none_bool (zY I q (by simp))
  | int j=>obtain ⟨t',rfl⟩:=ry;exact PySem.EqNone.eq_none_int (zY I q (by simp))
  | str j=>obtain ⟨t',rfl⟩:=ry;exact PySem.EqNone.eq_none_str (zY I q (by simp))
  | _=>exact absurd (show false=true from hs) ka
 | bl i=>
  cases rx
  cases y with
  | non=>cases ry;exact PySem.EqNone.eq_bool_none (zY I q (by simp))
  | bl j=>cases ry;exact eq_bool (zY I q z5n)
  | str j=>obtain ⟨t',rfl⟩:=ry;exact PySem.EqMixed.eq_bool_str (zY I q (by simp))
  | _=>exact absurd (show false=true from hs) ka
 | int i=>
  obtain ⟨t,rfl⟩:=rx
  cases y with
  | non=>cases ry;exact PySem.EqNone.eq_int_none (zY I q (by simp))
  | int j=>obtain ⟨t',rfl⟩:=ry;exact eq_int (zY I q z3z)
  | str j=>obtain ⟨t',rfl⟩:=ry;exact PySem.EqMixed.eq_int_str (zY I q (by simp))
  | _=>exact absurd (show false=true from hs) ka
 | str i=>
  obtain ⟨t,rfl⟩:=rx
  cases y with
  | non=>cases ry;exact PySem.EqNone.eq_str_none (zY I q (by simp))
  | bl j=>cases ry;exact PySem.EqMixed.eq_str_bool (zY I q (by simp))
  | int j=>obtain ⟨t',rfl⟩:=ry;exact PySem.EqMixed.eq_str_int (zY I q (by simp))
  | str j=>obtain ⟨t',rfl⟩:=ry;exact eq_str (zY I q z3y)
  | _=>exact absurd (show false=true from hs) ka
 | byt i=>
  obtain ⟨t,rfl⟩:=rx
  cases y with
  | byt j=>obtain ⟨t',rfl⟩:=ry;exact PySem.W.eq_bytes (zY I q z3A)
  | _=>exact absurd (show false=true from hs) ka
 | _=>cases y <;> exact absurd (show false=true from hs) ka
theorem z1C:OpR X (compareOp .NotEq) rNe:=by
 intro pins s σ H x y v u Q I rx ry h
 obtain ⟨hs,q⟩:=h
 cases x with
 | non=>
  cases rx
  cases y with
  | non=>cases ry;exact PySem.EqNone.ne_none_none (zY I q (by simp))
  | bl j=>cases ry;exact PySem.EqNone.ne_none_bool (zY I q (by simp))
  | int j=>obtain ⟨t',rfl⟩:=ry;exact PySem.EqNone.ne_none_int (zY I q (by simp))
  | str j=>obtain ⟨t',rfl⟩:=ry;exact PySem.EqNone.ne_none_str (zY I q (by simp))
  | _=>exact absurd (show false=true from hs) ka
 | bl i=>
  cases rx
  cases y with
  | non=>cases ry;exact PySem.EqNone.ne_bool_none (zY I q (by simp))
  | bl j=>cases ry;exact ne_bool (zY I q (congrArg not z5n))
  | str j=>obtain ⟨t',rfl⟩:=ry;exact PySem.EqMixed.ne_bool_str (zY I q (by simp))
  | _=>exact absurd (show false=true from hs) ka
 | int i=>
  obtain ⟨t,rfl⟩:=rx
  cases y with
  | non=>cases ry;exact PySem.EqNone.ne_int_none (zY I q (by simp))
  | int j=>obtain ⟨t',rfl⟩:=ry;exact ne_int (zY I q (congrArg not z3z))
  | str j=>obtain ⟨t',rfl⟩:=ry;exact PySem.EqMixed.ne_int_str (zY I q (by simp))
  | _=>exact absurd (show false=true from hs) ka
 | str i=>
  obtain ⟨t,rfl⟩:=rx
  cases y with
  | non=>cases ry;exact PySem.EqNone.ne_str_none (zY I q (by simp))
  | bl j=>cases ry;exact PySem.EqMixed.ne_str_bool (zY I q (by simp))
  | int j=>obtain ⟨t',rfl⟩:=ry;exact PySem.EqMixed.ne_str_int (zY I q (by simp))
  | str j=>obtain ⟨t',rfl⟩:=ry;exact ne_str (zY I q (congrArg not z3y))
  | _=>exact absurd (show false=true from hs) ka
 | byt i=>
  obtain ⟨t,rfl⟩:=rx
  cases y with
  | byt j=>obtain ⟨t',rfl⟩:=ry;exact PySem.W.ne_bytes (zY I q (congrArg not z3A))
  | _=>exact absurd (show false=true from hs) ka
 | _=>cases y <;> exact absurd (show false=true from hs) ka
theorem Qt:OpR X (compareOp .Lt) (rI0 fun i j=>.bl (decide (i < j))):=opB0 fun _ _ _ _ _ _ _ q=>lt_int q
theorem z1D:OpR X (compareOp .LtE) (rI0 fun i j=>.bl (decide (i≤j))):=opB0 fun _ _ _ _ _ _ _ q=>le_int q
theorem z2V:OpR X (compareOp .Gt) (rI0 fun i j=>.bl (decide (j < i))):=opB0 fun _ _ _ _ _ _ _ q=>gt_int q
theorem z7V:OpR X (compareOp .GtE) (rI0 fun i j=>.bl (decide (j≤i))):=opB0 fun _ _ _ _ _ _ _ q=>ge_int q
theorem QB:OpR X (compareOp .Is) (fun x y H Q=>y=.non∧Q (.bl (decide (x=.non))) H):=by
 intro pins s σ H x y v u Q I rx ry h
 obtain ⟨rfl,q⟩:=h
 cases ry
 refine is_none_gen (zY I q ?_)
 cases x <;> first
  | (cases rx;rfl)
  | (obtain ⟨t,rfl⟩:=rx;rfl)
theorem z0r:OpR X (compareOp .IsNot) (fun x y H Q=>y=.non∧Q (.bl (!decide (x=.non))) H):=by
 intro pins s σ H x y v u Q I rx ry h
 obtain ⟨rfl,q⟩:=h
 cases ry
 refine isnot_none_gen (zY I q ?_)
 cases x <;> first
  | (cases rx;rfl)
  | (obtain ⟨t,rfl⟩:=rx;rfl)
theorem zB (b:Expr) {op:CmpOp} (h:autoParam (op≠.In) aR._auto_2) (h2:autoParam (op≠.NotIn) aR._auto_2):behindInMarks op b=false:=by
 have e1:(op == CmpOp.In)=false:=by cases op <;> first | rfl | exact absurd rfl h
 have e2:(op == CmpOp.NotIn)=false:=by cases op <;> first | rfl | exact absurd rfl h2
 cases b <;> simp [behindInMarks,e1,e2]
theorem qZ {op:CmpOp} {r:R2} (ho:OpR X (compareOp op) r) (ha:PE X a ta) (hb:PE X b tb) (hm:behindInMarks op b=false):PE X (.Compare a [op] [b] pos) (tOp r ta tb):=by
 intro pins s σ H Q I h
 exact wpAny_Compare1 (binT ha hb I h fun v u s2 x y H2 I2 rx ry q=>ho pins s2 σ H2 x y v u Q I2 rx ry q) hm
def z7C (t:TE):TT:=fun σ H Q=>t σ H fun x H'=>∃k,x=.bl k∧Q k H'
theorem zr {op:CmpOp} {r:R2} (ho:OpR X (compareOp op) r) (ha:PE X a ta) (hb:PE X b tb) (hm:behindInMarks op b=false):PT X (.Compare a [op] [b] pos) (z7C (tOp r ta tb)):=by
 intro pins s σ H Q I h
 refine wpAny_isTrue_Compare1 (thn (ha pins s σ H _ I h) fun v s1 ⟨x,H1,I1,r1,q1⟩=>thn (hb pins s1 σ H1 _ I1 q1) fun u s2 ⟨y,H2,I2,r2,q2⟩=>
  thn (ho pins s2 σ H2 x y v u _ I2 r1 r2 q2) fun c s3 ⟨z,H3,I3,r3,k,e,q3⟩=>?_) hm
 subst e
 cases r3
 exact wpAny_truthy_bool ⟨H3,I3,q3⟩
def z6I (r r':R2) (ta tb tc:TE):TE:=fun σ H Q=>ta σ H fun x H1=>tb σ H1 fun y H2=>r x y H2 fun z H3=>∃k,z=.bl k∧
 (if k=true then tc σ H3 fun w' H4=>r' y w' H4 Q else Q (.bl false) H3)
theorem QX {op op':CmpOp} {r r':R2} (ho:OpR X (compareOp op) r) (ho':OpR X (compareOp op') r') (ha:PE X a ta) (hb:PE X b tb) (hc:PE X c tc)
  (hm:lastMarks [op,op'] [b,c]=false:=by with_unfolding_all rfl):PE X (.Compare a [op,op'] [b,c] pos) (z6I r r' ta tb tc):=by
 intro pins s σ H Q I h
 refine Compare_chain (thn (ha pins s σ H _ I h) fun v s1 ⟨x,H1,I1,r1,q1⟩=>chain_link (thn (hb pins s1 σ H1 _ I1 q1) fun u s2 ⟨y,H2,I2,r2,q2⟩=>
  thn (ho pins s2 σ H2 x y v u _ I2 r1 r2 q2) fun d s3 ⟨z,H3,I3,r3,k,e,q3⟩=>?_)) hm
 subst e
 cases r3
 refine wpAny_truthy_bool ?_
 cases k with
 | false=>exact ite_ff ⟨.bl false,H3,I3,rfl,q3⟩
 | true=>exact ite_tt (chain_last (thn (hc pins s3 σ H3 _ I3 q3) fun w' s4 ⟨z',H4,I4,r4,q4⟩=>ho' pins s4 σ H4 y z' u w' Q I4 r2 r4 q4))
def TruV (K:ko) (x:V) (H:Hp) (k:Bool):Prop:=
 match x with
 | .non=>k=false
 | .bl b=>k=b
 | .int i=>k=(i != 0)
 | .str y=>y.length≤sizeLine∧k=((y.length:Int) != 0)
 | .byt y=>y.size≤sizeLine∧k=((y.size:Int) != 0)
 | .ref p=>(∃xs,SqL K H p xs∧k= !xs.isEmpty)∨(∃xs,SqT K H p xs∧k= !xs.isEmpty)∨∃kvs,H p=some (.dK kvs)∧k= !kvs.isEmpty
 | _=>False
theorem z1O {κ:Type} {kvs:List (κ × V)} {vs:List (κ × Value)} (r:KV kvs vs):(!vs.isEmpty)= !kvs.isEmpty:=by
 cases r <;> rfl
theorem QF {xs:List V} {its:List Value} (r:Vals xs its):(!its.toArray.isEmpty)= !xs.isEmpty:=by
 cases r <;> simp
theorem QD:(sizeLine:Nat) < 2 ^ 63:=by rw [sizeLine_eq];decide
theorem z6x:TruR X (fun x H Q=>∃k,TruV X.K x H k∧Q k H):=by
 intro pins s σ H x v Q I rx h
 obtain ⟨k,e,q⟩:=h
 have hl:=QD
 have hs:sizeLine=16777216:=sizeLine_eq
 cases x with
 | non=>
  cases rx
  have e':k=false:=e
  subst e'
  exact truthy_none ⟨H,I,q⟩
 | bl b=>
  cases rx
  have e':k=b:=e
  subst e'
  exact wpAny_truthy_bool ⟨H,I,q⟩
 | int i=>
  obtain ⟨t,rfl⟩:=rx
  have e':k=(i != 0):=e
  subst e'
  exact PySem.P.truthy_int ⟨H,I,q⟩
 | str y=>
  obtain ⟨t,rfl⟩:=rx
  obtain ⟨hy,e'⟩:y.length≤sizeLine∧k=((y.length:Int) != 0):=e
  subst e'
  exact PySem.P.truthy_str (by lia) ⟨H,I.tok _,q⟩
 | byt y=>
  obtain ⟨t,rfl⟩:=rx
  obtain ⟨hy,e'⟩:y.size≤sizeLine∧k=((y.size:Int) != 0):=e
  subst e'
  exact PySem.W.truthy_bytes (by lia) ⟨H,I.tok _,q⟩
 | ref p=>
  cases rx
  have e':(∃xs,SqL X.K H p xs∧k= !xs.isEmpty)∨(∃xs,SqT X.K H p xs∧k= !xs.isEmpty)∨∃kvs,H p=some (.dK kvs)∧k= !kvs.isEmpty:=e
  rcases e' with ⟨xs,hx,e'⟩ | ⟨xs,hx,e'⟩ | ⟨kvs,hx,e'⟩
  ·subst e'
   obtain ⟨its,r,pl,hz⟩:=I.list hx
   have hlen:=r.length
   exact wpAny_truthy_list pl.isList (by simp only [kz];lia) ⟨H,I.tok _,by rw [QF r];exact q⟩
  ·subst e'
   obtain ⟨its,r,pl,hz⟩:=I.tuple hx
   have hlen:=r.length
   exact truthy_tuple pl (by simp only [kz];lia) ⟨H,I.tok _,by rw [QF r];exact q⟩
  ·subst e'
   obtain ⟨hz,hS,vs,r,m⟩:kvs.length≤sizeLine∧(p == sysModules)=false∧∃vs,KV kvs vs∧s.heap.DictOf (zI X.prog X.w) p vs:=I.hok p _ hx
   have hlen:kvs.length=vs.length:=Paired.length r
   exact wpAny_truthy_dict hS m (by lia) ⟨H,I.tok _,by rw [z1O r];exact q⟩
 | _=>exact (show False from e).elim
theorem ZV (ha:PE X a ta) (he:∀whole,isTrue a X.env whole=(do let v ←whole;standAt a.pos;holding [v] (truthy v))):
  PT X a (fun σ H Q=>ta σ H fun x H'=>∃k,TruV X.K x H' k∧Q k H'):=by
 intro pins s σ H Q I h
 exact isTrue_plain (thn (ha pins s σ H _ I h) fun v s1 ⟨x,H1,I1,r1,q1⟩=>z6x pins s1 σ H1 x v Q I1 r1 q1) (he _)
theorem z3Z {x:V} {us:List Value} (r:Vals [x] us):∃u,us=[u]∧RelV x u:=by
 cases r with
 | cons r1 r2=>cases r2;exact ⟨_,rfl,r1⟩
theorem z5u {x y:V} {us:List Value} (r:Vals [x,y] us):∃u w',us=[u,w']∧RelV x u∧RelV y w':=by
 cases r with
 | cons r1 r2=>
  cases r2 with
  | cons r3 r4=>cases r4;exact ⟨_,_,rfl,r1,r3⟩
theorem z3I (hc:X.calm=true):Jl X (.builtin "max") (fun xs H Q=>∃i j,xs=[.int i,.int j]∧Q (.int (if j > i then j else i)) H):=by
 intro pins s σ H xs us Q I r h
 obtain ⟨i,j,rfl,q⟩:=h
 obtain ⟨u,w',rfl,⟨t,rfl⟩,⟨t',rfl⟩⟩:=z5u r
 refine max_two_ints (I.ok.hd hc) fun h' tk k=>⟨_,H,I.kept k,?_,q⟩
 by_cases hj:j > i
 ·rw [kr hj,kr hj];exact ⟨_,rfl⟩
 ·rw [kq hj,kq hj];exact ⟨_,rfl⟩
theorem z3H (hc:X.calm=true):Jl X (.builtin "min") (fun xs H Q=>∃i j,xs=[.int i,.int j]∧Q (.int (if j < i then j else i)) H):=by
 intro pins s σ H xs us Q I r h
 obtain ⟨i,j,rfl,q⟩:=h
 obtain ⟨u,w',rfl,⟨t,rfl⟩,⟨t',rfl⟩⟩:=z5u r
 refine min_two_ints (I.ok.hd hc) fun h' tk k=>⟨_,H,I.kept k,?_,q⟩
 by_cases hj:j < i
 ·rw [kr hj,kr hj];exact ⟨_,rfl⟩
 ·rw [kq hj,kq hj];exact ⟨_,rfl⟩
end
end L2
namespace L2
open PySem PySem.Spec PyProof.Rows
structure ObjM (h:Heap) (x dx C:Addr) (mA:Str→Option Value):Prop where
 obj:h.get? x=some (PySem.W.instObj C dx)
 ns:h.Ns1 dx mA
 ne:dx≠x
theorem z31 {h:Heap} {dx:Addr} {mA:Str→Option Value} (n:h.Ns1 dx mA):∃od,h.get? dx=some od∧∀name,PySem.W.lookIn name od=some (mA name):=by
 obtain ⟨o,es,ep,ho,hd,hk,_,hm⟩:=n
 refine ⟨o,ho,fun name=>?_⟩
 have e:=hm name
 unfold nsFind findBy at e
 rw [←Array.find?_toList] at e
 unfold PySem.W.lookIn
 rw [hd]
 dsimp only
 split
 ·rename_i y q
  rw [q] at e
  exact congrArg some e
 ·rename_i q
  rw [q] at e
  have a:es.toList.any (·.refKey)=false:=by
   rw [List.any_eq_false]
   intro y hy
   obtain ⟨z,t,hkey⟩:=hk y (Array.mem_toList_iff.mp hy)
   simp [DictEntry.refKey,hkey]
  have a':¬es.toList.any (·.refKey)=true:=by rw [a];exact ka
  rw [kq a']
  exact congrArg some e
theorem ObjM.look {h:Heap} {x dx C:Addr} {mA:Str→Option Value} (I:ObjM h x dx C mA):∃od,PySem.W.InstAt h x (PySem.W.instObj C dx) C (some od)∧∀name,PySem.W.lookIn name od=some (mA name):=
 let ⟨od,ho,hl⟩:=z31 I.ns
 ⟨od,⟨I.obj,rfl,rfl,ho⟩,hl⟩
section
variable {prog:Program} {w:World} {A:Around} {E:Value→Shared→Prop} {s:Shared} {K:ko} {x dx C f:Addr} {mA:Str→Option Value} {name:Str} {v:Value}
end
theorem RelO.some_of {v:V} {o:Option Value} (r:RelO (some v) o):∃u,o=some u∧RelV v u:=by
 cases o with
 | none=>exact (show False from r).elim
 | some u=>exact ⟨u,rfl,r⟩
section
variable {P:Program} {w:World} {H H':Hp} {h h':Heap} {a C dx:Addr} {fs fs':List (Str × V)}
theorem z5Y (hok:HOk P w H h) (e:H a=some (.ins C dx fs)):∃mA,ObjM h a dx C mA∧(∀f,RelO (fs.lookup f) (mA f))∧PySem.Within mA (fs.map (·.1))∧fs.length≤1000∧H dx=some (.own a):=by
 obtain ⟨d,z,ne,ob,mA,n,r,q⟩:=(show qi P w H h a (.ins C dx fs) from hok a _ e)
 exact ⟨mA,⟨ob,n,ne⟩,r,q,z,d⟩
end
structure Cls (K:ko) (C:Addr):Prop where
 pg:PySem.W.plainGet K C Str.empty=true
 hd:PySem.W.hasDictIn K C=true
 po:PySem.W.plainOver K C=true
 sa:PySem.W.findIn K (.ref C) "__setattr__"=some (some (.builtin "object.__setattr__"))
theorem Cls.get {K:ko} {C:Addr} (c:Cls K C) (f:Str):PySem.W.plainGet K C f=true:=c.pg
section
variable {X:Cx} {pins:List (Addr × Obj)} {σ:St} {H:Hp} {s:Shared} {a C dx:Addr} {fs:List (Str × V)} {f:Str} {v:V} {A:Around} {E:Value→Shared→Prop}
end
section
variable {X:Cx} {o e value:Expr} {f:Str} {pos pos' tpos:Pos} {ta tv:TE}
end
section
variable {X:Cx} {pins:List (Addr × Obj)} {σ:St} {H:Hp} {s:Shared} {A:Around} {E:Value→Shared→Prop} {Q:Value→Shared→Prop} {c:Value} {b:Bool}
inductive TyOf (K:ko) (H:Hp):V→Value→Prop where
 | non:TyOf K H .non (.type "NoneType")
 | bl (x:Bool):TyOf K H (.bl x) (.type "bool")
 | int (i:Int):TyOf K H (.int i) (.type "int")
 | str (x:Str):TyOf K H (.str x) (.type "str")
 | flt (x:UInt64):TyOf K H (.flt x) (.type "float")
 | lst {a:Addr} {xs:List V} (e:H a=some (.lst xs)):TyOf K H (.ref a) (.type "list")
 | frz {a:Addr} {o:Obj} {xs:List V} (e:H a=some (.frz o (.lst xs))):TyOf K H (.ref a) (.type "list")
 | tup {a:Addr} {xs:List V} (e:H a=some (.tup xs)):TyOf K H (.ref a) (.type "tuple")
 | dK {a:Addr} {kvs:List (Key × V)} (e:H a=some (.dK kvs)):TyOf K H (.ref a) (.type "dict")
 | dT {a:Addr} {kvs:List (List Key × V)} (e:H a=some (.dT kvs)):TyOf K H (.ref a) (.type "dict")
 | ins {a C dx:Addr} {fs:List (Str × V)} (e:H a=some (.ins C dx fs)) (cl:Cls K C) (ha:PySem.W.findIn K (.ref C) "__class__"=some (some (.builtin "object.__class__")))
   (hn:PySem.W.specialIn K (.builtin "object.__class__") "__get__"=some (some (.builtin "getset_descriptor.__get__"))) (htk:PySem.W.takesIn K (.builtin "object.__class__")=some true)
   (hm:PySem.W.mroIn K C (.type "object")=some true):TyOf K H (.ref a) (.ref C)
theorem z38 {x:V} {u t:Value} (I:Inv X pins σ H s) (rx:RelV x u) (ty:TyOf X.K H x t) (e:PySem.W.kitOne X.K t c=some b) (h:∀tk,Q (.bool b) { s with toks:=tk }):
  wpAny (model X.prog X.w) A (call (.builtin "isinstance") [u,c]) Q E s:=by
 cases ty with
 | non=>cases (show u=Value.none from rx);exact PySem.W.kia_one PySem.W.kitx_none I.kIn True.intro e (fun z=>nomatch z) h
 | bl y=>cases (show u=Value.bool y from rx);exact PySem.W.kia_one PySem.W.kitx_bool I.kIn True.intro e (fun z=>nomatch z) h
 | int i=>obtain ⟨t,q⟩:=(show ∃t,u=Value.int i t from rx);cases q;exact PySem.W.kia_one PySem.W.kitx_int I.kIn True.intro e (fun z=>nomatch z) h
 | str y=>obtain ⟨t,q⟩:=(show ∃t,u=Value.str y t from rx);cases q;exact PySem.W.kia_one PySem.W.kitx_str I.kIn True.intro e (fun z=>nomatch z) h
 | flt y=>obtain ⟨t,q⟩:=(show ∃t,u=Value.float y t from rx);cases q;exact PySem.W.kia_one PySem.W.kitx_float I.kIn True.intro e (fun z=>nomatch z) h
 | @lst a xs ea=>
  cases (show u=Value.ref a from rx)
  obtain ⟨_,_,n,_,h1⟩:=(show qi X.prog X.w H s.heap a (.lst xs) from I.hok a _ ea)
  exact PySem.W.kia_one PySem.W.kitx_list I.kIn ⟨_,h1,rfl⟩ e (fun z=>nomatch z) h
 | @frz a ob xs ea=>
  cases (show u=Value.ref a from rx)
  obtain ⟨_,_,_,n,_,h1⟩:=(show qi X.prog X.w H s.heap a (.frz ob (.lst xs)) from I.hok a _ ea)
  exact PySem.W.kia_one PySem.W.kitx_list I.kIn ⟨_,h1,rfl⟩ e (fun z=>nomatch z) h
 | @tup a xs ea=>
  cases (show u=Value.ref a from rx)
  obtain ⟨_,_,_,p⟩:=(show qi X.prog X.w H s.heap a (.tup xs) from I.hok a _ ea)
  obtain ⟨o,h1,h2,_⟩:=p
  exact PySem.W.kia_one PySem.W.kitx_tuple I.kIn ⟨o,h1,h2⟩ e (fun z=>nomatch z) h
 | @dK a kvs ea=>
  cases (show u=Value.ref a from rx)
  obtain ⟨_,_,vs,_,p⟩:=(show qi X.prog X.w H s.heap a (.dK kvs) from I.hok a _ ea)
  obtain ⟨o,es,ep,h1,h2,_⟩:=p
  exact PySem.W.kia_one PySem.W.kitx_dict I.kIn ⟨o,h1,h2.1⟩ e (fun z=>nomatch z) h
 | @dT a kvs ea=>
  cases (show u=Value.ref a from rx)
  obtain ⟨_,_,xs,_,o,es,ep,h1,h2,_⟩:=(show qi X.prog X.w H s.heap a (.dT kvs) from I.hok a _ ea)
  exact PySem.W.kia_one PySem.W.kitx_dict I.kIn ⟨o,h1,h2.1⟩ e (fun z=>nomatch z) h
 | @ins a C dx fs ea cl ha hn htk hm=>
  cases (show u=Value.ref a from rx)
  obtain ⟨mA,O,_⟩:=z5Y I.hok ea
  obtain ⟨od,J,_⟩:=O.look
  exact PySem.W.kia_one (PySem.W.kitx_own (cl.get _) cl.hd ha hn htk hm) I.kIn J e (fun z=>nomatch z) h
end
end L2
namespace L2
open PySem PySem.Spec PyProof.Rows
structure Room (k:Nat) (A:Around):Prop where
 hd:A.handled=none
 dp:A.depth+3 * k+5 < recursionLimit
 un:A.units+16 * k+200 < cLine
 gd:A.guards=some []
theorem Room.mono {j k:Nat} {A:Around} (r:Room k A) (h:j≤k):Room j A:=⟨r.hd,by have:=r.dp;lia,by have:=r.un;lia,r.gd⟩
theorem Room.deeper {k:Nat} {A:Around} (r:Room (k+1) A) (env:Env):Room k (A.deeper env):=
 ⟨r.hd,by have:=r.dp;show A.depth+1+3 * k+5 < _;lia,by have:=r.un;show A.units+3+16 * k+200 < _;lia,r.gd⟩
theorem Room.depth {k:Nat} {A:Around} (r:Room k A):A.depth < recursionLimit:=by have:=r.dp;lia
theorem Room.units {k:Nat} {A:Around} (r:Room k A):A.units+64 < cLine:=by have:=r.un;lia
theorem Room.units0 {k:Nat} {A:Around} (r:Room k A):A.units < cLine:=by have:=r.un;lia
abbrev tNil:TA:=fun _ H Q=>Q [] H
abbrev jT (ta:TE) (tr:TA):TA:=fun σ H Q=>ta σ H fun x H1=>tr σ H1 fun xs H2=>Q (x :: xs) H2
section
variable {X:Cx} {e:Expr} {es:List Expr} {te:TE} {t:TA} {pos:Pos}
theorem z7:PA X [] tNil:=fun _ _ _ _ H Q I h=>Calls.spliced_nil ⟨[],H,I,.nil,h⟩
theorem z6 (ha:PE X e te) (hr:PA X es t) (hs:autoParam (starEach (e :: es) X.env=(false,eval e X.env) :: starEach es X.env) aR._auto_1):PA X (e :: es) (jT te t):=by
 intro pos pins s σ H Q I h
 rw [hs]
 show wpAny _ _ (spliced ((false,eval e X.env) :: backTo pos (starEach es X.env))) _ _ s
 refine Calls.spliced_cons (thn (ha pins s σ H _ I h) fun u s1 zz=>?_)
 obtain ⟨x,H1,I1,r1,q1⟩:=zz
 exact thn (hr pos pins s1 σ H1 _ I1 q1) fun us s2 ⟨xs,H2,I2,r2,q2⟩=>⟨x :: xs,H2,I2,.cons r1 r2,q2⟩
def tTup (t:TA):TE:=fun σ H Q=>t σ H fun xs H1=>xs.length≤sizeLine∧∀p,H1 p=none→Q (.ref p) (upd H1 p (.tup xs))
def tLst (t:TA):TE:=fun σ H Q=>t σ H fun xs H1=>xs.length≤sizeLine∧∀p,H1 p=none→Q (.ref p) (upd H1 p (.lst xs))
theorem qY {x1} (h:PA X es t):PE X (.Tuple es x1 pos) (tTup t):=by
 intro pins s σ H Q I hq
 refine wpAny_Tuple_spliced (thn (h pos pins s σ H _ I hq) fun us s1 ⟨xs,H1,I1,r,z,q⟩=>⟨by rw [←r.length];exact z,?_⟩)
 have hf:H1 s1.heap.objs.size=none:=I1.hok.fresh (kc _)
 refine ⟨.ref s1.heap.objs.size,upd H1 s1.heap.objs.size (.tup xs),I1.laid (t':=s1.toks) (fun b u e=>Heap.get?_push_of_some _ e) (kc _) ?_,rfl,q _ hf⟩
 exact ⟨z,us,r,⟨_,Heap.get?_push_size _ rfl,rfl,_,rfl⟩⟩
theorem qe (h:PA X es t):PE X (.List es pos) (tLst t):=by
 intro pins s σ H Q I hq
 refine wpAny_List_spliced (thn (h pos pins s σ H _ I hq) fun us s1 ⟨xs,H1,I1,r,z,q⟩=>⟨by rw [←r.length];exact z,?_⟩)
 have hf:H1 s1.heap.objs.size=none:=I1.hok.fresh (kc _)
 refine ⟨.ref s1.heap.objs.size,upd H1 s1.heap.objs.size (.lst xs),I1.laid (t':=s1.toks) (fun b u e=>Heap.get?_push_of_some _ e) (kc _) ?_,rfl,q _ hf⟩
 exact ⟨z,us,0,r,Heap.get?_push_size _ rfl⟩
end
abbrev Sp:=List V→Hp→VK→XK→Prop
abbrev CXT:=List Env→Hp→Shared→XK→Value→Shared→Prop
structure Env0 (P:Program) (w:World) (K:ko) (mg:Str→Option Value) (base:Heap) (A:Around) (outer:List Env) (s:Shared) (H:Hp):Prop where
 frames:A.frames=some outer
 mod:Mod K mg base
 bs:∀b o,base.get? b=some o→s.heap.get? b=some o∧H b=none
 bsz:base.objs.size≤s.heap.objs.size
 funs:s.heap.FunFrames base outer
 frf:∀b∈frs outer,H b=none
 hok:HOk P w H s.heap
 bare:AllBare s.gens
def CE (outer:List Env) (P:Program) (w:World) (H:Hp) (s:Shared) (Q:VK) (u:Value) (s':Shared):Prop:=
 ∃v H',s'.os=s.os∧AllBare s'.gens∧Un (frs outer) [] H H' s.heap s'.heap∧HOk P w H' s'.heap∧RelV v u∧Q v H'
def CR (CX:CXT) (outer:List Env) (P:Program) (w:World) (H:Hp) (s:Shared) (Q:VK) (E:XK) (r:Result) (s':Shared):Prop:=
 match r with
 | .ok (.ret u)=>CE outer P w H s Q u s'
 | .ok _=>False
 | .error e=>CX outer H s E e s'
structure FnOk (P:Program) (w:World) (K:ko) (mg:Str→Option Value) (base:Heap) (CX:CXT) (k:Nat) (f:Addr) (fd:FuncData) (ps:List Str) (sp:Sp):Prop where
 len:∀vs H Q E,sp vs H Q E→vs.length=ps.length
 run:∀(A:Around) (outer:List Env) (s:Shared) (H:Hp) (args:Args) (us:List Value) (vs:List V) (Q:VK) (E:XK),Room k A→Env0 P w K mg base A outer s H→BindsTo s fd args (ps.zip us)→Vals vs us→sp vs H Q E→
  codeAny (model P w) A (.call (.ref f) args) (CR CX outer P w H s Q E) s
theorem FnOk.mono {P:Program} {w:World} {K:ko} {mg:Str→Option Value} {base:Heap} {CX:CXT} {j k:Nat} {f:Addr} {fd:FuncData} {ps:List Str} {sp:Sp} (F:FnOk P w K mg base CX j f fd ps sp) (h:j≤k):
  FnOk P w K mg base CX k f fd ps sp:=⟨F.len,fun A outer s H args us vs Q E hr=>F.run A outer s H args us vs Q E (hr.mono h)⟩
theorem FnOk.imp {P:Program} {w:World} {K:ko} {mg:Str→Option Value} {base:Heap} {CX:CXT} {k:Nat} {f:Addr} {fd:FuncData} {ps:List Str} {sp sp':Sp} (F:FnOk P w K mg base CX k f fd ps sp)
  (h:∀vs H Q E,sp' vs H Q E→sp vs H Q E):FnOk P w K mg base CX k f fd ps sp':=
 ⟨fun vs H Q E q=>F.len vs H Q E (h _ _ _ _ q),fun A outer s H args us vs Q E hr he hb hv hs=>F.run A outer s H args us vs Q E hr he hb hv (h _ _ _ _ hs)⟩
section
variable {X:Cx} {pins:List (Addr × Obj)} {σ:St} {H:Hp} {s s':Shared}
theorem Inv.env0 (I:Inv X pins σ H s):Env0 X.prog X.w X.K X.mg X.base X.A X.stack s H:=
 ⟨I.ok.frames,I.ok.mod,I.bs,kn I.ok.bsz I.sz,I.stack,I.stkFree,I.hok,I.bare⟩
theorem Inv.after {Q:VK} {u:Value} (I:Inv X pins σ H s) (h:CE X.stack X.prog X.w H s Q u s'):EP X pins σ Q u s':=by
 obtain ⟨v,H',os,bare,un,hok,r,q⟩:=h
 obtain ⟨hh,g,d,t,os'⟩:=s'
 obtain rfl:os'=s.os:=os
 exact ⟨v,H',I.call (h':=hh) (g':=g) (d':=d) (t':=t) (ch:=[]) un hok bare (fun b z=>absurd z (by simp)),r,q⟩
end
abbrev z2n (sp:Sp) (dvs:List V) (E:XK) (t:TA):TE:=fun σ H Q=>t σ H fun vs H1=>sp (vs++dvs) H1 Q E
def Qu (K:ko) (fd:FuncData) (ps:List Str) (ds:List Value):Prop:=
 ∀(s:Shared) (us:List Value),K.In s.heap→(us++ds).length=ps.length→BindsTo s fd ⟨us,[]⟩ (ps.zip (us++ds))
theorem Qu.all {K:ko} {fd:FuncData} {ps:List Str} (h:∀us:List Value,us.length=ps.length→bindArgs fd ⟨us,[]⟩=pure (ps.zip us)):Qu K fd ps []:=fun s us _ hl=>by
 rw [kQ] at hl ⊢
 exact .of_eq (h us hl)
def z3T (CX:CXT) (X:Cx) (E:XK):Prop:=∀(pins:List (Addr × Obj)) (σ:St) (H:Hp) (s:Shared) (e:Value) (s':Shared),Inv X pins σ H s→CX X.stack H s E e s'→X.xe e s'
section
variable {X:Cx} {CX:CXT} {k:Nat} {f C:Addr} {fd:FuncData} {ps:List Str} {sp:Sp} {dvs:List V} {ds:List Value} {E:XK} {x m:Str} {p pos apos:Pos} {e o:Expr} {es:List Expr} {ta:TE} {t:TA}
theorem z5b {pins:List (Addr × Obj)} {σ:St} {H:Hp} {s:Shared} {Q:VK} {us:List Value} {vs:List V} (F:FnOk X.prog X.w X.K X.mg X.base CX k f fd ps sp) (hr:Room k X.A) (hb:Qu X.K fd ps ds) (hd:Vals dvs ds) (hx:z3T CX X E)
  (I:Inv X pins σ H s) (r:Vals vs us) (h:sp (vs++dvs) H Q E):wpAny (model X.prog X.w) X.A (call (.ref f) us) (EP X pins σ Q) X.xe s:=by
 have r2:Vals (vs++dvs) (us++ds):=r.append hd
 have hl:(us++ds).length=ps.length:=by rw [←r2.length];exact F.len _ _ _ _ h
 refine wpAny_call (codeAny_mono (F.run X.A X.stack s H ⟨us,[]⟩ (us++ds) (vs++dvs) Q E hr I.env0 (hb s us I.kIn hl) r2 h) fun r s' hq=>?_)
 cases r with
 | error e=>exact hx pins σ H s e s' I hq
 | ok fl=>
  cases fl with
  | ret u=>exact I.after hq
  | next=>exact False.elim hq
  | brk=>exact False.elim hq
  | cont=>exact False.elim hq
theorem z2T (F:FnOk X.prog X.w X.K X.mg X.base CX k f fd ps sp) (hr:Room k X.A) (hg:Gl X x) (hm:X.mg x=some (.ref f)) (hk:PySem.W.keepIn X.K (.ref f)=true) (hb:Qu X.K fd ps ds) (hd:Vals dvs ds) (hx:z3T CX X E)
  (ha:PA X (e :: es) t) (hdb:autoParam ((x == ("__debug__":Str))=false) aR._auto_2) (he:autoParam (starEach (e :: es) X.env=(false,eval e X.env) :: starEach es X.env) aR._auto_1) (hpl:autoParam ((backTo pos (starEach es X.env)).any (·.1)=false) aR._auto_1):
  PE X (.Call (.Name x p) (e :: es) [] pos) (z2n sp dvs E t):=by
 intro pins s σ H Q I h
 refine wpAny_Call_Name_kw (Qi I hg hm ?_ hdb)
 refine PySem.W.callWith_K (h₀:=X.base) I.ok.mod.kin hk (thn (ha pos pins s σ H _ I h) fun us s1 ⟨vs,H1,I1,r,q⟩=>⟨I1.kIn,?_⟩) he hpl
 exact z5b F hr hb hd hx I1 r q
end
section
variable {X:Cx} {CX:CXT} {k:Nat} {f C:Addr} {fd:FuncData} {ps ks:List Str} {sp:Sp} {E:XK} {x m:Str} {p pos apos kpos:Pos} {e o:Expr} {es:List Expr} {kws:List Keyword} {te ta:TE} {t tk:TA} {nm:Option Str}
variable {g:List Value→List Value→List Value} {gV:List V→List V→List V}
end
structure zn (N P:List Str) (sc:Scope):Prop where
 kind:sc.kind=.function
 co:sc.isCoroutine=false
 gen:sc.isGenerator=false
 nd:N.Nodup
 pre:N.take P.length=P
 par:∀x∈P,sc.names.lookup x=some .local∨sc.names.lookup x=some .cell
 nofree:∀y∈sc.names,y.2≠.free
theorem z06 {kindOf:Str→Option NameKind} {x:Str}:∀{binds:List (Str × Value)} {m:Str→Option Value},(∀v,(x,v)∉binds)→bindL kindOf binds m x=m x
 | [],_,_=>rfl
 | (n,v) :: r,m,h=>by
  unfold bindL
  rw [z06 fun w hw=>h w (kN _ hw)]
  split
  ·have:x≠n:=by rintro rfl;exact h v kM
   simp [this]
  ·rfl
theorem z08 {kindOf:Str→Option NameKind} {x:Str}:∀{binds:List (Str × Value)} {m:Str→Option Value},(∀v,(x,v)∉binds)→bindC kindOf binds m x=m x
 | [],_,_=>rfl
 | (n,v) :: r,m,h=>by
  unfold bindC
  rw [z08 fun w hw=>h w (kN _ hw)]
  split
  ·rfl
  ·have:x≠n:=by rintro rfl;exact h v kM
   simp [this]
theorem z07 {kindOf:Str→Option NameKind} {x:Str} {v:Value}:∀{P:List Str} {vs:List Value} {i:Nat} {m:Str→Option Value},P.Nodup→P[i]?=some x→vs[i]?=some v→kindOf x=some .local→
  bindL kindOf (P.zip vs) m x=some v
 | [],_,_,_,_,h,_,_=>by simp at h
 | _ :: _,[],_,_,_,_,h,_=>by simp at h
 | p :: P,w :: vs,0,m,nd,h1,h2,hk=>by
  simp at h1 h2;subst h1;subst h2
  show bindL kindOf ((p,w) :: P.zip vs) m p=_
  unfold bindL
  rw [z06 fun v hv=>(List.nodup_cons.mp nd).1 (List.of_mem_zip hv).1,kr hk]
  simp
 | p :: P,w :: vs,i+1,m,nd,h1,h2,hk=>by
  show bindL kindOf ((p,w) :: P.zip vs) m x=_
  unfold bindL
  exact z07 (i:=i) (List.nodup_cons.mp nd).2 (by simpa using h1) (by simpa using h2) hk
theorem z09 {kindOf:Str→Option NameKind} {x:Str} {v:Value}:∀{P:List Str} {vs:List Value} {i:Nat} {m:Str→Option Value},P.Nodup→P[i]?=some x→vs[i]?=some v→kindOf x≠some .local→
  bindC kindOf (P.zip vs) m x=some v
 | [],_,_,_,_,h,_,_=>by simp at h
 | _ :: _,[],_,_,_,_,h,_=>by simp at h
 | p :: P,w :: vs,0,m,nd,h1,h2,hk=>by
  simp at h1 h2;subst h1;subst h2
  show bindC kindOf ((p,w) :: P.zip vs) m p=_
  unfold bindC
  rw [z08 fun v hv=>(List.nodup_cons.mp nd).1 (List.of_mem_zip hv).1,kq hk]
  simp
 | p :: P,w :: vs,i+1,m,nd,h1,h2,hk=>by
  show bindC kindOf ((p,w) :: P.zip vs) m x=_
  unfold bindC
  exact z09 (i:=i) (List.nodup_cons.mp nd).2 (by simpa using h1) (by simpa using h2) hk
noncomputable def Z0 (N:List Str) (vs:List V):St:=vs.map some++List.replicate (N.length - vs.length) none
noncomputable def cxOf (CX:CXT) (P:Program) (w:World) (K:ko) (mg:Str→Option Value) (base:Heap) (N:List Str) (qual:Str) (scope:Scope) (f:Addr) (cd:Value) (A:Around) (outer:List Env) (s:Shared) (H:Hp) (E:XK):Cx where
 prog:=P
 w:=w
 K:=K
 mg:=mg
 base:=base
 A:=A.deeper (envOfC qual scope s.heap.objs.size f cd)
 N:=N
 s₀:=s
 H₀:=H
 env:=envOfC qual scope s.heap.objs.size f cd
 outer:=outer
 stack:=envOfC qual scope s.heap.objs.size f cd :: outer
 ex:=[]
 calm:=true
 fn:=fun _=>true
 pn:=[]
 xe:=fun e s'=>wpAny (model P w) (A.deeper (envOfC qual scope s.heap.objs.size f cd)) (leaving (envOfC qual scope s.heap.objs.size f cd) e) (fun _ s''=>CX outer H s E e s'') (fun e' s''=>CX outer H s E e' s'') s'
theorem z1k {sc:Scope} {n:Nat} {x:Str} (h:sc.names.lookup x=some .cell):∃c,(cellsFrom n sc.names []).lookup x=some c:=by
 have q:=PySem.W.cellsFrom_some sc.names n [] (.inl h)
 exact Option.isSome_iff_exists.mp q
theorem z3b {CX:CXT} {P:Program} {w:World} {K:ko} {mg:Str→Option Value} {base:Heap} {N ps:List Str} {qual:Str} {scope:Scope} {f:Addr} {cd:Value} {A:Around} {outer:List Env} {s s1:Shared} {H:Hp} {E:XK} {us:List Value} {vs:List V}
  (S:zn N ps scope) (hd:A.handled=none) (e0:Env0 P w K mg base A outer s H) (hl:vs.length=ps.length) (r:Vals vs us)
  (x:InCallC s s.heap.objs.size (bindL (envOfC qual scope s.heap.objs.size f cd).kindOf (ps.zip us) fun _=>none) (cellsFrom (s.heap.objs.size+1) scope.names []) (bindC (envOfC qual scope s.heap.objs.size f cd).kindOf (ps.zip us) fun _=>none) s1):
  Inv (cxOf CX P w K mg base N qual scope f cd A outer s H E) [] (Z0 N vs) H s1:=by
 have hpl:ps.length≤N.length:=by have:=congrArg List.length S.pre;rw [List.length_take] at this;lia
 obtain ⟨h1,tk,rfl,hk⟩:=x.done
 have noA:∀b:Addr,b∉(cxOf CX P w K mg base N qual scope f cd A outer s H E).ex:=fun b z=>absurd (show b∈([]:List Addr) from z) (by simp)
 refine ⟨⟨e0.mod,S.kind,rfl,rfl,kc _,fun y z c h1 h2=>?_,fun y hy=>?_,fun y c _ h=>?_,fun _=>hd,Around.frames_deeper e0.frames,.inr ⟨rfl,rfl⟩,fun b z=>absurd z (noA b),e0.bs,e0.bsz,fun b _ _=>noA b,fun b z=>absurd z (noA b),e0.funs,e0.frf⟩,
  rfl,e0.bare,Un.kept hk,⟨_,x.toInCall.ns,fun i y v h1 h2 h3=>?_⟩,fun y c h=>⟨_,x.cell y c h⟩,e0.hok.fresh (kc _),fun y c h=>?_,fun p hp=>absurd (show p∈([]:List (Addr × Obj)) from hp) (by simp),e0.hok.kept hk,?_⟩
 ·exact name_of_addr x.apart (PySem.mem_of_lookup h1) (PySem.mem_of_lookup h2)
 ·have hy:scope.names.lookup y=some .cell∨scope.names.lookup y=some .free:=hy
  rcases hy with hy | hy
  ·exact z1k hy
  ·exact absurd rfl (S.nofree _ (PySem.mem_of_lookup hy))
 ·exact Nat.le_of_lt (x.above y c (PySem.mem_of_lookup h))
 ·have hi:i < vs.length:=by
   unfold Z0 at h2
   by_cases hi:i < vs.length
   ·exact hi
   ·rw [yd (by simpa using hi)] at h2
    rw [List.getElem?_replicate] at h2
    split at h2 <;> cases h2
  have ha:vs[i]?=some v:=by
   unfold Z0 at h2
   rw [yc (by simpa using hi),List.getElem?_map] at h2
   cases e:vs[i]? with
   | none=>rw [e] at h2;cases h2
   | some a=>rw [e] at h2;cases h2;rfl
  obtain ⟨u,hu,rv⟩:=r.get ha
  have hp:ps[i]?=some y:=by
   rw [←S.pre,List.getElem?_take_of_lt (by lia)];exact h1
  have ndP:ps.Nodup:=by rw [←S.pre];exact S.nd.sublist (List.take_sublist _ _)
  refine ⟨u,rv,?_⟩
  rcases S.par y (kD hp) with k | k
  ·exact .inl ⟨k,z07 ndP hp hu k⟩
  ·obtain ⟨c,e⟩:=z1k (n:=s.heap.objs.size+1) k
   refine .inr ⟨.inl k,c,e,?_⟩
   have q:=x.cell y c e
   rw [z09 ndP hp hu (by show scope.names.lookup y≠_;rw [k];decide)] at q
   exact q
 ·exact e0.hok.fresh (Nat.le_of_lt (x.above y c (PySem.mem_of_lookup h)))
 ·unfold Z0
  show _=N.length
  rw [ki,kh,List.length_replicate]
  lia
theorem z7k {CX:CXT} {P:Program} {w:World} {K:ko} {mg:Str→Option Value} {base:Heap} {k:Nat} {f:Addr} {name qual:Str} {params:Arguments} {body:List Stmt} {scope:Scope} {dV kV doc pm cdv ct oc:Value} {an od:Option Addr}
  {osl:Array (Option Value)} {N ps:List Str} {sp:Sp} (lk:K.lookup f=some ⟨oc,od,.func (PySem.W.fnOf name qual params body scope dV kV doc pm an cdv ct),osl⟩) (hcd:PySem.W.codeIn K cdv qual=true) (S:zn N ps scope)
  (len:∀vs H Q E,sp vs H Q E→vs.length=ps.length)
  (hbody:∀(A:Around) (outer:List Env) (s:Shared) (H:Hp) (vs:List V) (Q:VK) (E:XK),Room k (A.deeper (envOfC qual scope s.heap.objs.size f cdv))→sp vs H Q E→
   ∃t,PSs (cxOf CX P w K mg base N qual scope f cdv A outer s H E) body t∧t { nx:=fun _ H'=>Q .non H',rt:=Q } (Z0 N vs) H):
  FnOk P w K mg base CX (k+1) f (PySem.W.fnOf name qual params body scope dV kV doc pm an cdv ct) ps sp:=by
 refine ⟨len,fun A outer s H args us vs Q E hr e0 hb r hsp=>?_⟩
 have hl:=len _ _ _ _ hsp
 have KX:K.In s.heap:=e0.mod.kin.keeps fun b o e=>(e0.bs b o e).1
 have lim:s.heap.NoLimit:=e0.mod.nolimit.keeps fun b o e=>(e0.bs b o e).1
 have hkind:∀y∈ps.zip us,scope.names.lookup y.1=some .local∨(scope.names.lookup y.1=some .cell∧((cellsFrom (s.heap.objs.size+1) scope.names []).lookup y.1).isSome=true):=fun ⟨n,v⟩ hy=>by
  rcases S.par n (List.of_mem_zip hy).1 with q | q
  ·exact .inl q
  ·exact .inr ⟨q,PySem.W.cellsFrom_some _ _ _ (.inl q)⟩
 refine codeAny_call_function hr.depth (KX _ _ lk) rfl S.co S.gen rfl (PySem.W.codeRec_of KX hcd) (hb _ _ _ _ ?_)
 refine wpAny_newFunctionEnv_cells S.kind hkind fun env he s1 x=>?_
 subst he
 refine ⟨lim.keeps x.toInCall.keep,codeAny_func ?_⟩
 obtain ⟨t,ht,hq⟩:=hbody A outer s H vs Q E (hr.deeper _) hsp
 have I:Inv (cxOf CX P w K mg base N qual scope f cdv A outer s H E) [] (Z0 N vs) H s1:=z3b S hr.hd e0 hl r x
 refine wpAny_mono (ht [] s1 (Z0 N vs) H _ I hq) (fun fl s' hs=>?_) fun e s' hs=>hs
 have fin:∀{σ':St} {H':Hp} {v:V} {u:Value},Inv (cxOf CX P w K mg base N qual scope f cdv A outer s H E) [] σ' H' s'→RelV v u→Q v H'→CE outer P w H s Q u s':=
  fun {σ' H' v u} J rv q=>⟨v,H',J.os,J.bare,J.base,J.hok,rv,q⟩
 cases fl with
 | ret u=>
  obtain ⟨v,σ',H',J,rv,q⟩:=hs
  exact fin J rv q
 | next=>
  obtain ⟨σ',H',J,q⟩:=hs
  exact fin (v:=V.non) (u:=Value.none) J rfl q
 | brk=>
  obtain ⟨_,_,_,q⟩:=hs
  exact False.elim q
 | cont=>
  obtain ⟨_,_,_,q⟩:=hs
  exact False.elim q
end L2
namespace L2
open PySem PySem.Spec PyProof.Rows
section
variable {X:Cx} {x:Str} {p pos:Pos} {e:Expr} {es:List Expr} {t:TA} {id T:String} {r:List V→Hp→VK→Prop}
def tCB (r:List V→Hp→VK→Prop) (t:TA):TE:=fun σ H Q=>t σ H fun vs H1=>r vs H1 Q
theorem zw (hc:Jl X (.builtin id) r) (hg:Gl X x) (hm:X.mg x=none) (hv:bootBuiltins x=some (.builtin id)) (ha:PA X (e :: es) t) (hn:autoParam (x≠"__name__") aR._auto_2) (hdb:autoParam ((x == ("__debug__":Str))=false) aR._auto_2)
  (he:autoParam (starEach (e :: es) X.env=(false,eval e X.env) :: starEach es X.env) aR._auto_1) (hpl:autoParam ((backTo pos (starEach es X.env)).any (·.1)=false) aR._auto_1):PE X (.Call (.Name x p) (e :: es) [] pos) (tCB r t):=by
 intro pins s σ H Q I h
 refine wpAny_Call_Name_kw (ZK I hg hm hv ?_ hn hdb)
 exact PyProof.Rows.callWith_builtin1 (thn (ha pos pins s σ H _ I h) fun us s1 ⟨vs,H1,I1,r1,q1⟩=>hc pins s1 σ H1 vs us Q I1 r1 q1) he hpl
theorem z2S (hc:Jl X (.type T) r) (hg:Gl X x) (hm:X.mg x=none) (hv:bootBuiltins x=some (.type T)) (ha:PA X (e :: es) t) (hn:autoParam (x≠"__name__") aR._auto_2) (hdb:autoParam ((x == ("__debug__":Str))=false) aR._auto_2)
  (he:autoParam (starEach (e :: es) X.env=(false,eval e X.env) :: starEach es X.env) aR._auto_1) (hpl:autoParam ((backTo pos (starEach es X.env)).any (·.1)=false) aR._auto_1):PE X (.Call (.Name x p) (e :: es) [] pos) (tCB r t):=by
 intro pins s σ H Q I h
 refine wpAny_Call_Name_kw (ZK I hg hm hv ?_ hn hdb)
 exact PyProof.Rows.callWith_type1 (thn (ha pos pins s σ H _ I h) fun us s1 ⟨vs,H1,I1,r1,q1⟩=>hc pins s1 σ H1 vs us Q I1 r1 q1) he hpl
end
end L2
namespace HT
open PySem PyProof.Rows
section
open PySem.SeqAt
open PySem.AutoSeq1 (wpAny_loadPart')
open PySem.MeetsSeq PySem.MeetsSeq2 PySem.MeetsSeq3
end
section
variable {prog:Program} {w:World} {A:Around} {E:Value→Shared→Prop} {s:Shared}
theorem cat_tup {t b:Addr} {vs ws:List Value} {Q:Value→Shared→Prop} (ht:IsTup s.heap t vs.toArray) (hb:IsTup s.heap b ws.toArray) (hv:vs≠[])
  (h1:ws=[]→Q (.ref t) s) (h2:ws≠[]→Q (.ref s.heap.objs.size) { s with heap:=s.heap.push { cls:=.type "tuple",data:=.seq (vs++ws).toArray } })
  (hsz:vs.length+ws.length≤sizeLine):wpAny (model prog w) A (binaryOp .Add (.ref t) (.ref b)) Q E s:=by
 obtain ⟨⟨cls,dd,data,sl⟩,ho,hc,n,hd⟩:=id ht
 obtain ⟨⟨cls2,dd2,data2,sl2⟩,ho2,hc2,n2,hd2⟩:=id hb
 simp only at hc hd hc2 hd2
 subst hc hd hc2 hd2
 have e:vs.toArray++ws.toArray=(vs++ws).toArray:=by simp
 by_cases hw:ws=[]
 ·exact concat_meets ⟨_,ho,rfl⟩ ⟨_,ho2,rfl⟩ noFill_tuple_add seq_tuple_add PySem.F.slot_tuple_add PySem.F.entry_tuple_add (PySem.F.args_tuple_add_2 _ _)
   (tuple_addW1 t b vs.toArray ws.toArray n n2 dd dd2 sl sl2 (by simpa using hv) (by simp [hw])) ⟨ho,ho2,h1 hw⟩
 ·refine concat_meets ⟨_,ho,rfl⟩ ⟨_,ho2,rfl⟩ noFill_tuple_add seq_tuple_add PySem.F.slot_tuple_add PySem.F.entry_tuple_add (PySem.F.args_tuple_add_2 _ _)
   (tuple_addW2 t b vs.toArray ws.toArray n n2 dd dd2 sl sl2 (by simpa using hv) (by simpa using hw) (by rw [kz,kz];exact hsz)) ⟨ho,ho2,?_⟩
  rw [e]
  exact h2 hw
noncomputable def sIx (n d:Nat):Option Int→Nat
 | none=>d
 | some v=>if v < 0 then (v+(n:Int)).toNat else min v.toNat n
theorem z6P (n d:Nat) (hd:d≤n) (o:Option Int):sIx n d o≤n:=by
 cases o with
 | none=>exact hd
 | some v=>
  show (if v < 0 then (v+(n:Int)).toNat else min v.toNat n)≤n
  by_cases hv:v < 0
  ·rw [kr hv];lia
  ·rw [kq hv];exact Nat.min_le_right _ _
theorem z3F (v:Int) (n d:Nat):(if v < 0 then max (v+(n:Int)) 0 else min v (n:Int))=((sIx n d (some v):Nat):Int):=by
 show (if v < 0 then max (v+(n:Int)) 0 else min v (n:Int))=(((if v < 0 then (v+(n:Int)).toNat else min v.toNat n):Nat):Int)
 by_cases hv:v < 0
 ·simp only [kr hv];lia
 ·simp only [kq hv];lia
theorem z29 (lo hi:Option Int) (n:Nat):Builtin.Slice.sliceAdjust lo hi 1 (n:Int)=(((sIx n 0 lo:Nat):Int),((sIx n n hi:Nat):Int)):=by
 have h1:¬((1:Int) < 0):=by lia
 unfold Builtin.Slice.sliceAdjust
 simp only [h1,if_false]
 refine Prod.ext ?_ ?_
 ·cases lo with
  | none=>rfl
  | some v=>exact z3F v n 0
 ·cases hi with
  | none=>rfl
  | some v=>exact z3F v n n
theorem z1x (i j:Nat):Builtin.Slice.slicePlaces (i:Int) (j:Int) 1=j - i:=by
 unfold Builtin.Slice.slicePlaces
 have h1:(1:Int) > 0:=by lia
 simp only [h1,if_true,Int.ediv_one]
 split <;> lia
theorem Qx {v:Value} {o:Option Int} {Q:Option Int→Shared→Prop} (p:IsPart v o) (h:Q o s):wpAny (model prog w) A (Builtin.Slice.slicePartIndex v) Q E s:=by
 cases p with
 | none=>exact slicePart_none h
 | int i t=>exact slicePart_int h
theorem ZN {sl:Addr} {vl vu:Value} {lo hi:Option Int} {n:Nat} {Q:Int × Int × Nat→Shared→Prop} (hs:s.heap.IsSliceOf sl vl vu .none) (pl:IsPart vl lo) (pu:IsPart vu hi)
  (h:Q (((sIx n 0 lo:Nat):Int),1,sIx n n hi - sIx n 0 lo) s):wpAny (model prog w) A (Builtin.Slice.sliceApplied (.ref sl) (pure (n:Int))) Q E s:=by
 obtain ⟨os,hos,hcs,hds⟩:=id hs
 unfold Builtin.Slice.sliceApplied Builtin.Slice.sliceFields
 refine wpAny_bind (wpAny_bind (wpAny_field hos hds (x:=vl) rfl (wpAny_bind (wpAny_field hos hds (x:=vu) rfl (wpAny_bind (wpAny_field hos hds (x:=.none) rfl (wpAny_pure ?_)))))))
 refine wpAny_bind (slicePart_none ?_)
 show wpAny _ _ (if ((1:Int) == 0)=true then _ else _) _ _ s
 rw [kq (by decide)]
 refine wpAny_bind (Qx pl (wpAny_bind (Qx pu (wpAny_bind (wpAny_pure ?_)))))
 show wpAny _ _ (match Builtin.Slice.sliceAdjust lo hi 1 (n:Int) with | (lo,hi)=>pure (lo,(1:Int),Builtin.Slice.slicePlaces lo hi 1)) _ _ s
 rw [z29 lo hi n]
 show wpAny _ _ (pure (((sIx n 0 lo:Nat):Int),(1:Int),Builtin.Slice.slicePlaces ((sIx n 0 lo:Nat):Int) ((sIx n n hi:Nat):Int) 1)) _ _ s
 rw [z1x]
 exact wpAny_pure h
theorem z49 (xs:Array Value) (i k:Nat):((List.range k).filterMap fun (m:Nat)=>xs[((i:Int)+(m:Int) * 1).toNat]?).toArray=((xs.toList.drop i).take k).toArray:=by
 have e:(fun (m:Nat)=>xs[((i:Int)+(m:Int) * 1).toNat]?)=fun m=>xs[i+m]?:=by
  funext m
  have:((i:Int)+(m:Int) * 1).toNat=i+m:=by lia
  rw [this]
 rw [e]
 have:=pick_run xs i k
 rw [List.filterMap_map] at this
 have e2:((fun x=>xs[x]?) ∘ fun x=>i+x)=fun m=>xs[i+m]?:=rfl
 rw [e2] at this
 rw [this]
theorem getItem_tuple_cut {t sl:Addr} {items:Array Value} {vl vu:Value} {lo hi:Option Int} {Q:Value→Shared→Prop} (ht:IsTup s.heap t items) (hs:s.heap.IsSliceOf sl vl vu .none) (pl:IsPart vl lo) (pu:IsPart vu hi)
  (hw:¬(sIx items.size 0 lo=0∧sIx items.size items.size hi=items.size))
  (h:Q (.ref s.heap.objs.size) { s with heap:=s.heap.push { cls:=.type "tuple",data:=.seq ((items.toList.drop (sIx items.size 0 lo)).take (sIx items.size items.size hi - sIx items.size 0 lo)).toArray } })
  (hsz:items.size≤sizeLine):wpAny (model prog w) A (getItem (.ref t) (.ref sl)) Q E s:=by
 have htake:sizeOk (.seq ((items.toList.drop (sIx items.size 0 lo)).take (sIx items.size items.size hi - sIx items.size 0 lo)).toArray):=by
  show ((items.toList.drop (sIx items.size 0 lo)).take (sIx items.size items.size hi - sIx items.size 0 lo)).toArray.size≤sizeLine
  rw [kz,List.length_take,List.length_drop,Array.length_toList]
  lia
 have hj:sIx items.size items.size hi≤items.size:=z6P _ _ (kc _) hi
 obtain ⟨os,hos,hcs,hds⟩:=id hs
 have hTs:s.TypeIs (.ref sl) "slice":=⟨os,hos,hcs⟩
 unfold getItem
 try with_reducible refine wpAny_holding ?_
 first | refine wpAny_bind (wpAny_pure ?_) | skip
 refine wpAny_bind (wpAny_sequenceKey ht.typeIs (by decide) ?_)
 refine wpAny_bind (wpAny_callSpecial?_slot (name:=Str.ofString "__getitem__") ht.typeIs PyProof.Rows.slot_tuple_getitem
  (wpAny_call_entry PyProof.Rows.slot_tuple_getitem ht.typeIs entry_tuple_getitem ?_ (args_tuple_getitem _ _)))
 show wpAny _ _ (Builtin.Tuple.tupleItemsOf (.ref t) >>= _) _ _ s
 refine wpAny_bind (tupleItemsOf_ ht ?_)
 refine wpAny_bind (wpAny_typeOf hTs ?_)
 rw [kr (by decide)]
 refine wpAny_bind (ZN hs pl pu ?_)
 have hno:¬((((sIx items.size 0 lo:Nat):Int) == 0&&(1:Int) == 1&&(sIx items.size items.size hi - sIx items.size 0 lo) == items.size)=true):=by
  intro q
  rw [kZ,kZ] at q
  have q1:((sIx items.size 0 lo:Nat):Int)=0:=eq_of_beq q.1.1
  have q2:sIx items.size items.size hi - sIx items.size 0 lo=items.size:=eq_of_beq q.2
  exact hw ⟨by lia,by lia⟩
 show wpAny _ _ (if (((sIx items.size 0 lo:Nat):Int) == 0&&(1:Int) == 1&&(sIx items.size items.size hi - sIx items.size 0 lo) == items.size)=true then _ else _) _ _ s
 rw [kq hno,z49]
 first
  | exact wpAny_bind (m:=Builtin.Tuple.tupleExact _) (wpAny_newObj_type (wpAny_pure ⟨_,rfl,wpAny_pure h⟩) htake)
  | exact wpAny_bind (m:=Builtin.Tuple.tupleExact _) (wpAny_newObj_type (wpAny_bind (wpAny_pure (wpAny_pure ⟨_,rfl,wpAny_pure h⟩))) htake)
  | exact wpAny_bind (wpAny_bind (m:=Builtin.Tuple.tupleExact _) (wpAny_newObj_type (wpAny_pure (wpAny_pure ⟨_,rfl,wpAny_pure h⟩)) htake))
  | exact wpAny_bind (wpAny_bind (m:=Builtin.Tuple.tupleExact _) (wpAny_newObj_type (wpAny_pure ⟨_,rfl,wpAny_pure h⟩) htake))
end
end HT
namespace L2
open PySem PySem.Spec PyProof.Rows
abbrev TO:=St→Hp→(Option Int→Hp→Prop)→Prop
def PO (X:Cx) (e:Option Expr) (t:TO):Prop:=
 ∀(pins:List (Addr × Obj)) (s:Shared) (σ:St) (H:Hp) (Q:Option Int→Hp→Prop),Inv X pins σ H s→t σ H Q→
  wpAny (model X.prog X.w) X.A (evalPart e X.env) (fun u s'=>∃o H',Inv X pins σ H' s'∧IsPart u o∧Q o H') X.xe s
def z5z:TO:=fun _ H Q=>Q none H
def z7D (t:TE):TO:=fun σ H Q=>t σ H fun x H1=>∃i,x=.int i∧Q (some i) H1
section
variable {X:Cx} {e:Expr} {te:TE} {lo hi:Option Expr} {tl th:TO} {pos p2:Pos}
theorem z2L:PO X none z5z:=by
 intro pins s σ H Q I h
 rw [evalPart_none]
 exact wpAny_pure ⟨none,H,I,.none,h⟩
theorem z2K (h:PE X e te):PO X (some e) (z7D te):=by
 intro pins s σ H Q I hw
 rw [evalPart_some]
 refine thn (h pins s σ H _ I hw) fun u s1 zz=>?_
 obtain ⟨x,H1,I1,r1,q1⟩:=zz
 obtain ⟨i,rfl,q⟩:=q1
 obtain ⟨t,rfl⟩:=r1
 exact ⟨some i,H1,I1,.int i t,q⟩
def SlR (X:Cx) (r:V→Option Int→Option Int→Hp→VK→Prop):Prop:=
 ∀(pins:List (Addr × Obj)) (s:Shared) (σ:St) (H:Hp) (x:V) (v vl vu:Value) (lo hi:Option Int) (sl:Addr) (Q:VK),Inv X pins σ H s→RelV x v→s.heap.IsSliceOf sl vl vu .none→IsPart vl lo→IsPart vu hi→r x lo hi H Q→
  ∃T id,typeLookup (.type T) "__getitem__"=pure (some (.builtin id))∧s.TypeIs v T∧wpAny (model X.prog X.w) X.A (getItem v (.ref sl)) (EP X pins σ Q) X.xe s
def tSl (r:V→Option Int→Option Int→Hp→VK→Prop) (te:TE) (tl th:TO):TE:=fun σ H Q=>te σ H fun x H1=>tl σ H1 fun l H2=>th σ H2 fun u H3=>r x l u H3 Q
theorem z0V {r:V→Option Int→Option Int→Hp→VK→Prop} (hr:SlR X r) (he:PE X e te) (hl:PO X lo tl) (hu:PO X hi th):PE X (.Subscript e (.Slice lo hi none p2) pos) (tSl r te tl th):=by
 intro pins s σ H Q I h
 refine Subscript_ (thn (he pins s σ H _ I h) fun v s1 zz=>?_)
 obtain ⟨x,H1,I1,r1,q1⟩:=zz
 refine wpAny_Slice (thn (hl pins s1 σ H1 _ I1 q1) fun vl s2 ⟨l,H2,I2,pl,q2⟩=>thn (hu pins s2 σ H2 _ I2 q2) fun vu s3 zz=>?_)
 obtain ⟨u,H3,I3,pu,q3⟩:=zz
 rw [evalPart_none]
 refine wpAny_pure ?_
 have I4:Inv X pins σ H3 { s3 with heap:=s3.heap.push { cls:=.type "slice",data:=.fields #[vl,vu,.none] } }:=I3.kept (t':=s3.toks) fun b ob q=>Heap.get?_push_of_some _ q
 obtain ⟨T,id,hT,ht,hg⟩:=hr pins { s3 with heap:=s3.heap.push { cls:=.type "slice",data:=.fields #[vl,vu,.none] } } σ H3 x v vl vu l u s3.heap.objs.size Q I4 r1 (Heap.IsSliceOf.new ..) pl pu q3
 show wpAny (model X.prog X.w) X.A (subscriptTail e (.Slice lo hi none p2) v (.ref s3.heap.objs.size)) (EP X pins σ Q) X.xe { s3 with heap:=s3.heap.push { cls:=.type "slice",data:=.fields #[vl,vu,.none] } }
 exact tail_any (ops:=[.ref s3.heap.objs.size,v]) ht hT hg (by with_unfolding_all rfl)
noncomputable def cutV (xs:List V) (lo hi:Option Int):List V:=(xs.drop (HT.sIx xs.length 0 lo)).take (HT.sIx xs.length xs.length hi - HT.sIx xs.length 0 lo)
theorem Qn (xs:List V) (lo hi:Option Int):(cutV xs lo hi).length≤xs.length:=by
 unfold cutV
 rw [List.length_take,List.length_drop]
 lia
def rSlT (K:ko):V→Option Int→Option Int→Hp→VK→Prop:=fun x lo hi H Q=>∃a xs,x=.ref a∧SqT K H a xs∧
 ¬(HT.sIx xs.length 0 lo=0∧HT.sIx xs.length xs.length hi=xs.length)∧∀p,H p=none→Q (.ref p) (upd H p (.tup (cutV xs lo hi)))
theorem z6N:SlR X (rSlT X.K):=by
 intro pins s σ H x v vl vu lo hi sl Q I rx hs pl pu h
 obtain ⟨a,xs,rfl,hx,hw,q⟩:=h
 cases rx
 obtain ⟨its,r,ht,hz⟩:=I.tuple hx
 have hlen:its.toArray.size=xs.length:=by rw [kz];exact r.length.symm
 refine ⟨"tuple",_,PyProof.Rows.slot_tuple_getitem.lookup,ht.typeIs,?_⟩
 refine HT.getItem_tuple_cut ht hs pl pu (by rw [hlen];exact hw) ?_ (by rw [hlen];exact hz)
 rw [hlen]
 refine ⟨.ref s.heap.objs.size,_,I.laid (t':=s.toks) (o:=.tup (cutV xs lo hi)) (fun b ob q=>Heap.get?_push_of_some _ q) (kc _) ?_,rfl,q _ (I.hok.fresh (kc _))⟩
 exact ⟨kn (Qn xs lo hi) hz,_,(r.drop (HT.sIx xs.length 0 lo)).take (HT.sIx xs.length xs.length hi - HT.sIx xs.length 0 lo),IsTup.new _ _⟩
def z7T (K:ko):R2:=fun x y H Q=>∃a b xs ys,x=.ref a∧y=.ref b∧SqT K H a xs∧SqT K H b ys∧xs≠[]∧xs.length+ys.length≤sizeLine∧
 (ys=[]→Q (.ref a) H)∧(ys≠[]→∀p,H p=none→Q (.ref p) (upd H p (.tup (xs++ys))))
theorem Vals.nil_iff {xs:List V} {us:List Value} (r:Vals xs us):us=[]↔xs=[]:=by
 cases r with
 | nil=>simp
 | cons _ _=>simp
theorem z2W:OpR X (binaryOp .Add) (z7T X.K):=by
 intro pins s σ H x y v u Q I rx ry h
 obtain ⟨a,b,xs,ys,rfl,rfl,ha,hb,hx,hz,q1,q2⟩:=h
 cases rx
 cases ry
 obtain ⟨its,r1,p1,_⟩:=I.tuple ha
 obtain ⟨its2,r2,p2,_⟩:=I.tuple hb
 refine HT.cat_tup p1 p2 (fun z=>hx (r1.nil_iff.mp z)) (fun z=>⟨.ref a,H,I,rfl,q1 (r2.nil_iff.mp z)⟩) (fun z=>?_) (by rw [←r1.length,←r2.length];exact hz)
 refine ⟨.ref s.heap.objs.size,_,I.laid (t':=s.toks) (o:=.tup (xs++ys)) (fun b ob q=>Heap.get?_push_of_some _ q) (kc _) ?_,rfl,q2 (fun w=>z (r2.nil_iff.mpr w)) _ (I.hok.fresh (kc _))⟩
 exact ⟨by rw [ki];exact hz,_,r1.append r2,IsTup.new _ _⟩
end
end L2
namespace L2
open PySem PySem.Spec PyProof.Rows
noncomputable def ixN (n:Nat) (i:Int):Option Nat:=if 0≤i then (if i < n then some i.toNat else none) else if -(n:Int)≤i then some (i+n).toNat else none
noncomputable def atI {α:Type} (xs:List α) (i:Int):Option α:=(ixN xs.length i).bind fun j=>xs[j]?
theorem z36 {n:Nat} {i:Int} {j:Nat} (h:ixN n i=some j):seqIndex? i n=some j∧j < n∧-(n:Int)≤i∧i < n:=by
 unfold ixN at h
 by_cases h0:0≤i
 ·rw [kr h0] at h
  by_cases h1:i < n
  ·rw [kr h1] at h
   have e:i.toNat=j:=ku h
   exact ⟨by rw [seqIndex_of h0 h1,e],by lia,by lia,h1⟩
  ·rw [kq h1] at h;cases h
 ·rw [kq h0] at h
  by_cases h1: -(n:Int)≤i
  ·rw [kr h1] at h
   have e:(i+n).toNat=j:=ku h
   exact ⟨by rw [seqIndex_neg (by lia) h1,e],by lia,h1,by lia⟩
  ·rw [kq h1] at h;cases h
theorem z3O {α:Type} {xs:List α} {i:Int} {v:α} (h:atI xs i=some v):∃j,seqIndex? i xs.length=some j∧xs[j]?=some v∧j < xs.length∧-(xs.length:Int)≤i∧i < xs.length:=by
 unfold atI at h
 cases e:ixN xs.length i with
 | none=>rw [e] at h;cases h
 | some j=>
  rw [e] at h
  obtain ⟨h1,h2,h3,h4⟩:=z36 e
  exact ⟨j,h1,h,h2,h3,h4⟩
theorem zy {α:Type} {xs:List α} {j:Nat} {v:α} (h:xs[j]?=some v):atI xs (j:Int)=some v:=by
 have hj:j < xs.length:=(ke.mp h).1
 have e:ixN xs.length (j:Int)=some j:=by
  unfold ixN
  rw [kr (by lia),kr (by lia)];simp
 unfold atI;rw [e];exact h
theorem z1p {α:Type} (xs:List α) (v:α):atI (xs++[v]) (-1)=some v:=by
 have hl:(xs++[v]).length=xs.length+1:=by simp
 have e:ixN (xs++[v]).length (-1)=some xs.length:=by
  unfold ixN
  rw [hl,kq (by decide),kr (by lia)]
  congr 1
  lia
 unfold atI
 rw [e]
 show (xs++[v])[xs.length]?=some v
 simp
def z6v (b:Expr):Prop:=∀o i,subscripted b false o i=operate [o,i] (getItem o i)
def IxR (X:Cx) (r:R2):Prop:=
 ∀(value slice:Expr) (pins:List (Addr × Obj)) (s:Shared) (σ:St) (H:Hp) (x y:V) (v u:Value) (Q:VK),Inv X pins σ H s→RelV x v→RelV y u→r x y H Q→
  subscripted slice false v u=operate [v,u] (getItem v u)→wpAny (model X.prog X.w) X.A (subscriptTail value slice v u) (EP X pins σ Q) X.xe s
def MtR (X:Cx) (id:String) (r:V→List V→Hp→VK→Prop):Prop:=
 ∀(pins:List (Addr × Obj)) (s:Shared) (σ:St) (H:Hp) (x:V) (xs:List V) (v:Value) (us:List Value) (Q:VK),Inv X pins σ H s→RelV x v→Vals xs us→r x xs H Q→
  wpAny (model X.prog X.w) X.A (call (.builtin id) (v :: us)) (EP X pins σ Q) X.xe s
section
variable {X:Cx} {a b:Expr} {ta tb:TE} {pos:Pos}
theorem qa {r:R2} (hr:IxR X r) (ha:PE X a ta) (hb:PE X b tb) (hs:z6v b):PE X (.Subscript a b pos) (tOp r ta tb):=by
 intro pins s σ H Q I h
 exact Subscript_ (binT ha hb I h fun v u s2 x y H2 I2 rx ry q=>hr a b pins s2 σ H2 x y v u Q I2 rx ry q (hs _ _))
def rIxL (K:ko):R2:=fun x y H Q=>∃p xs i v,x=.ref p∧y=.int i∧SqL K H p xs∧atI xs i=some v∧Q v H
def rIxT (K:ko):R2:=fun x y H Q=>∃p xs i v,x=.ref p∧y=.int i∧SqT K H p xs∧atI xs i=some v∧Q v H
theorem zK:IxR X (rIxL X.K):=by
 intro value slice pins s σ H x y v u Q I rx ry h hs
 obtain ⟨p,xs,i,z,rfl,rfl,hq,he,q⟩:=h
 cases rx
 obtain ⟨t,rfl⟩:=ry
 obtain ⟨its,r,pl,hz⟩:=I.list hq
 obtain ⟨j,h1,h2,h3,h4,h5⟩:=z3O he
 obtain ⟨w,ew,rw'⟩:=r.get h2
 have hl:=r.length
 have hn:=QD
 have fin:EP X pins σ Q w s:=⟨z,H,I,rw',q⟩
 by_cases h0:0≤i
 ·have hj:i.toNat=j:=by
   rw [seqIndex_of h0 h5] at h1
   exact ku h1
  exact item_listR pl.isList h0 (by lia) (by rw [hj];simpa using ew) fin hs
 ·have hj:(i+(its.toArray.size:Int)).toNat=j:=by
   rw [seqIndex_neg (by lia) h4] at h1
   rw [kz,←hl]
   exact ku h1
  exact subscriptTail_builtinR (x:=w) pl.isList.typeIs slot_list_getitem.lookup
   (wpAny_getItem_list_neg (Q:=fun r s'=>r=w∧EP X pins σ Q r s') pl.isList (by lia) (by rw [kz] <;> lia) (by lia) (by rw [hj];simpa using ew) ⟨rfl,fin⟩) hs
theorem qH:IxR X (rIxT X.K):=by
 intro value slice pins s σ H x y v u Q I rx ry h hs
 obtain ⟨p,xs,i,z,rfl,rfl,hq,he,q⟩:=h
 cases rx
 obtain ⟨t,rfl⟩:=ry
 obtain ⟨its,r,pl,hz⟩:=I.tuple hq
 obtain ⟨j,h1,h2,h3,h4,h5⟩:=z3O he
 obtain ⟨w,ew,rw'⟩:=r.get h2
 have hl:=r.length
 have hn:=QD
 have fin:EP X pins σ Q w s:=⟨z,H,I,rw',q⟩
 exact subscriptTail_builtinR (x:=w) pl.typeIs slot_tuple_getitem.lookup
  (getItem_tuple (j:=j) (Q:=fun r s'=>r=w∧EP X pins σ Q r s') pl (by lia) (by lia) (by rw [kz,←hl];exact h1) (by simpa using ew) ⟨rfl,fin⟩) hs
theorem z1K (its:List Value) (n j:Nat) (u:Value):Obj.mapSeq (·.setIfInBounds j u) { cls:=.type "list",data:=.seq its.toArray n }={ cls:=.type "list",data:=.seq (its.set j u).toArray n }:=by
 simp [Obj.mapSeq]
theorem Inv.lst {pins:List (Addr × Obj)} {σ:St} {H:Hp} {s:Shared} {p:Addr} {xs:List V} (I:Inv X pins σ H s) (h:H p=some (.lst xs)):
  ∃(its:List Value) (n:Nat),Vals xs its∧s.heap.get? p=some { cls:=.type "list",data:=.seq its.toArray n }∧xs.length≤sizeLine:=by
 obtain ⟨z,its,n,r,e⟩:=I.hok p _ h
 exact ⟨its,n,r,e,z⟩
theorem Inv.lstUpd {pins:List (Addr × Obj)} {σ:St} {H:Hp} {s:Shared} {p:Addr} {xs ys:List V} {its its':List Value} {n n':Nat} {f:Obj→Obj} (I:Inv X pins σ H s) (h:H p=some (.lst xs))
  (ho:s.heap.get? p=some { cls:=.type "list",data:=.seq its.toArray n }) (hf:f { cls:=.type "list",data:=.seq its.toArray n }={ cls:=.type "list",data:=.seq its'.toArray n' }) (r:Vals ys its') (hz:ys.length≤sizeLine) (t:Nat):
  Inv X pins σ (upd H p (.lst ys)) { s with heap:=s.heap.update p f,toks:=t }:=by
 have e:(s.heap.update p f).get? p=some { cls:=.type "list",data:=.seq its'.toArray n' }:=by
  rw [Heap.get?_update_self f ho (by rw [hf] <;> rfl),hf]
 refine I.write (x:=p) (e:=p) (by rw [h];trivial) (.inl rfl) (fun b u hb q=>(Heap.get?_update_other _ _ (Ne.symm hb)).trans q) ⟨_,e⟩ ?_
 exact ⟨hz,its',n',r,e⟩
def z7R:V→V→V→Hp→(Hp→Prop)→Prop:=fun o i v H Q=>∃p xs k j,o=.ref p∧i=.int k∧H p=some (.lst xs)∧ixN xs.length k=some j∧Q (upd H p (.lst (xs.set j v)))
theorem ZU:PSet X z7R:=by
 intro pins s σ H o i v ov iv u Q I ro ri rv h
 obtain ⟨p,xs,k,j,rfl,rfl,hp,hj,q⟩:=h
 cases ro
 obtain ⟨t,rfl⟩:=ri
 obtain ⟨its,n,r,ho,hz⟩:=I.lst hp
 obtain ⟨h1,h2,h3,h4⟩:=z36 hj
 have hl:=r.length
 have hn:=QD
 have I':Inv X pins σ (upd H p (.lst (xs.set j v))) { s with heap:=s.heap.update p (Obj.mapSeq (·.setIfInBounds j u)) }:=
  I.lstUpd hp ho (z1K its n j u) (r.set rv j) (by rw [List.length_set];exact hz) s.toks
 by_cases h0:0≤k
 ·have hk:k.toNat=j:=by
   rw [seqIndex_of h0 h4] at h1
   exact ku h1
  exact PySem.W.ki_setAt ho h0 (by lia) (by rw [kz,←hl];exact h4) (by rw [hk];exact ⟨_,I',q⟩)
 ·have hk:(k+(its.toArray.size:Int)).toNat=j:=by
   rw [seqIndex_neg (by lia) h3] at h1
   rw [kz,←hl]
   exact ku h1
  exact PySem.W.ki_setBack ho (by lia) (by rw [kz,←hl];exact h3) (by lia) (by rw [hk];exact ⟨_,I',q⟩)
theorem Jv (lo hi:Option Int) (n:Nat):(sliceBounds lo hi none n).1=((HT.sIx n 0 lo:Nat):Int)∧(sliceBounds lo hi none n).2.1=((HT.sIx n n hi:Nat):Int)∧(sliceBounds lo hi none n).2.2=1:=by
 refine ⟨?_,?_,rfl⟩
 ·cases lo with
  | none=>simp [sliceBounds,HT.sIx]
  | some i=>
   simp only [sliceBounds,HT.sIx,Option.getD_none,show (1:Int) > 0 by decide,if_true]
   by_cases h:i < 0
   ·simp only [h,if_true] <;> lia
   ·simp only [h,if_false] <;> lia
 ·cases hi with
  | none=>simp [sliceBounds,HT.sIx]
  | some i=>
   simp only [sliceBounds,HT.sIx,Option.getD_none,show (1:Int) > 0 by decide,if_true]
   by_cases h:i < 0
   ·simp only [h,if_true] <;> lia
   ·simp only [h,if_false] <;> lia
theorem QR (its:List Value) (lo hi:Option Int):slicePick its.toArray lo hi none=((its.drop (HT.sIx its.length 0 lo)).take (HT.sIx its.length its.length hi - HT.sIx its.length 0 lo)).toArray:=by
 obtain ⟨h1,h2,h3⟩:=Jv lo hi its.toArray.size
 unfold slicePick
 rw [h1,h2,h3]
 simp only [sliceRange_one,pick_run,kz] <;> rfl
def rSlL (K:ko):V→Option Int→Option Int→Hp→VK→Prop:=fun x lo hi H Q=>∃a xs,x=.ref a∧SqL K H a xs∧∀p,H p=none→Q (.ref p) (upd H p (.lst (cutV xs lo hi)))
theorem z5E:SlR X (rSlL X.K):=by
 intro pins s σ H x v vl vu lo hi sl Q I rx hs pl pu h
 obtain ⟨a,xs,rfl,hx,q⟩:=h
 cases rx
 obtain ⟨its,r,ht,hz⟩:=I.list hx
 have hlen:=r.length
 refine ⟨"list",_,slot_list_getitem.lookup,ht.isList.typeIs,?_⟩
 refine wpAny_getItem_list_slice ht.isList hs pl pu .none (by simp) ?_ (by rw [kz] <;> lia)
 rw [QR,←hlen]
 refine ⟨.ref s.heap.objs.size,_,I.laid (t':=s.toks) (o:=.lst (cutV xs lo hi)) (fun b ob q=>Heap.get?_push_of_some _ q) (kc _) ?_,rfl,q _ (I.hok.fresh (kc _))⟩
 exact ⟨kn (Qn xs lo hi) hz,_,0,(r.drop (HT.sIx xs.length 0 lo)).take (HT.sIx xs.length xs.length hi - HT.sIx xs.length 0 lo),Heap.get?_push_size _ rfl⟩
noncomputable def ZC:V→Bool
 | .non=>true
 | .bl _=>true
 | .int _=>true
 | .str _=>true
 | _=>false
noncomputable def eqV:V→V→Bool
 | .non,.non=>true
 | .bl a,.bl b=>a == b
 | .bl a,.int b=>(if a then 1 else 0) == b
 | .int a,.bl b=>a == (if b then 1 else 0)
 | .int a,.int b=>a == b
 | .str a,.str b=>a == b
 | _,_=>false
theorem z3t {A:Around} {s:Shared} {y x:V} {u v:Value} (ry:RelV y u) (rx:RelV x v) (fy:ZC y=true) (fx:ZC x=true):SeqAt.EqAt A s u v (eqV y x):=by
 cases y with
 | non=>
  cases ry
  cases x with
  | non=>cases rx;exact SeqAt.EqAt.same _
  | bl b=>cases rx;exact SeqAt.EqAt.none_bool b
  | int b=>obtain ⟨t,rfl⟩:=rx;exact SeqAt.EqAt.none_int b t
  | str b=>obtain ⟨t,rfl⟩:=rx;exact SeqAt.EqAt.none_str b t
  | _=>exact absurd (show false=true from fx) ka
 | bl a=>
  cases ry
  cases x with
  | non=>cases rx;exact SeqAt.EqAt.bool_none a
  | bl b=>cases rx;exact SeqAt.EqAt.bool_bool a b
  | int b=>obtain ⟨t,rfl⟩:=rx;exact SeqAt.EqAt.bool_int a b t
  | str b=>obtain ⟨t,rfl⟩:=rx;exact SeqAt.EqAt.bool_str a b t
  | _=>exact absurd (show false=true from fx) ka
 | int a=>
  obtain ⟨t',rfl⟩:=ry
  cases x with
  | non=>cases rx;exact SeqAt.EqAt.int_none a t'
  | bl b=>cases rx;exact SeqAt.EqAt.int_bool a t' b
  | int b=>obtain ⟨t,rfl⟩:=rx;exact SeqAt.EqAt.int_int a t' b t
  | str b=>obtain ⟨t,rfl⟩:=rx;exact SeqAt.EqAt.int_str a t' b t
  | _=>exact absurd (show false=true from fx) ka
 | str a=>
  obtain ⟨t',rfl⟩:=ry
  cases x with
  | non=>cases rx;exact SeqAt.EqAt.str_none a t'
  | bl b=>cases rx;exact SeqAt.EqAt.str_bool a t' b
  | int b=>obtain ⟨t,rfl⟩:=rx;exact SeqAt.EqAt.str_int a t' b t
  | str b=>obtain ⟨t,rfl⟩:=rx;exact SeqAt.EqAt.str_str a t' b t
  | _=>exact absurd (show false=true from fx) ka
 | _=>exact absurd (show false=true from fy) ka
noncomputable def eqU (x:V) (u:Value):Bool:=match u with
 | .none=>eqV .non x
 | .bool b=>eqV (.bl b) x
 | .int i _=>eqV (.int i) x
 | .str z _=>eqV (.str z) x
 | _=>false
theorem z5m {x y:V} {u:Value} (r:RelV y u) (f:ZC y=true):eqU x u=eqV y x:=by
 cases y with
 | non=>cases r;rfl
 | bl b=>cases r;rfl
 | int i=>obtain ⟨t,rfl⟩:=r;rfl
 | str z=>obtain ⟨t,rfl⟩:=r;rfl
 | _=>exact absurd (show false=true from f) ka
theorem Qp {x:V}:∀{xs:List V} {us:List Value},Vals xs us→xs.all ZC=true→us.any (eqU x)=xs.any fun y=>eqV y x
 | _,_,.nil,_=>rfl
 | y :: xs,u :: us,.cons r t,f=>by
  rw [List.all_cons,kZ] at f
  rw [List.any_cons,List.any_cons,z5m r f.1,Qp t f.2]
theorem Zj {A:Around} {s:Shared} {x:V} {v:Value} (rx:RelV x v) (fx:ZC x=true):∀{xs:List V} {us:List Value},Vals xs us→xs.all ZC=true→∀u∈us,SeqAt.EqAt A s u v (eqU x u)
 | _,_,.nil,_=>fun u hu=>by cases hu
 | y :: xs,u :: us,.cons r t,f=>fun u' hu=>by
  rw [List.all_cons,kZ] at f
  rcases ky.mp hu with rfl | hu
  ·rw [z5m r f.1];exact z3t r rx f.1 fx
  ·exact Zj rx fx t f.2 u' hu
noncomputable def inV (x:V) (xs:List V):Bool:=xs.any fun y=>eqV y x
def rIn (K:ko) (neg:Bool):R2:=fun x y H Q=>∃p xs,y=.ref p∧(SqL K H p xs∨SqT K H p xs)∧ZC x=true∧xs.all ZC=true∧Q (.bl (if neg then !inV x xs else inV x xs)) H
theorem qO:OpR X (compareOp .In) (rIn X.K false):=by
 intro pins s σ H x y v u Q I rx ry h
 obtain ⟨p,xs,rfl,hq,fx,fs,q⟩:=h
 cases ry
 rcases hq with hq | hq
 ·obtain ⟨its,r,pl,hz⟩:=I.list hq
  refine SeqAt.in_listAt (eqU x) pl.isList (fun w hw=>Zj rx fx r fs w (by simpa using hw)) ⟨.bl _,H,I,rfl,?_⟩
  rw [show its.toArray.any (eqU x)=its.any (eqU x) by simp,Qp r fs]
  exact q
 ·obtain ⟨its,r,pl,hz⟩:=I.tuple hq
  refine SeqAt.in_tupleAt (eqU x) pl (fun w hw=>Zj rx fx r fs w (by simpa using hw)) ⟨.bl _,H,I,rfl,?_⟩
  rw [show its.toArray.any (eqU x)=its.any (eqU x) by simp,Qp r fs]
  exact q
theorem qN:OpR X (compareOp .NotIn) (rIn X.K true):=by
 intro pins s σ H x y v u Q I rx ry h
 obtain ⟨p,xs,rfl,hq,fx,fs,q⟩:=h
 cases ry
 rcases hq with hq | hq
 ·obtain ⟨its,r,pl,hz⟩:=I.list hq
  refine SeqAt.notIn_listAt (eqU x) pl.isList (fun w hw=>Zj rx fx r fs w (by simpa using hw)) ⟨.bl _,H,I,rfl,?_⟩
  rw [show its.toArray.any (eqU x)=its.any (eqU x) by simp,Qp r fs]
  exact q
 ·obtain ⟨its,r,pl,hz⟩:=I.tuple hq
  refine SeqAt.notIn_tupleAt (eqU x) pl (fun w hw=>Zj rx fx r fs w (by simpa using hw)) ⟨.bl _,H,I,rfl,?_⟩
  rw [show its.toArray.any (eqU x)=its.any (eqU x) by simp,Qp r fs]
  exact q
theorem zx:Jl X (.builtin "len") (fun xs H Q=>∃p ys,xs=[.ref p]∧(SqL X.K H p ys∨SqT X.K H p ys)∧Q (.int ys.length) H):=by
 intro pins s σ H xs us Q I r h
 obtain ⟨p,ys,rfl,hq,q⟩:=h
 obtain ⟨u,rfl,rx⟩:=z3Z r
 cases rx
 have hn:=QD
 rcases hq with hq | hq
 ·obtain ⟨its,r',pl,hz⟩:=I.list hq
  have hlen:=r'.length
  exact Calls.call_len_list pl.isList (by simp only [kz] <;> lia) ⟨.int ys.length,H,I.tok _,⟨s.toks+1,by rw [kz,hlen]⟩,q⟩
 ·obtain ⟨its,r',pl,hz⟩:=I.tuple hq
  have hlen:=r'.length
  exact len_tuple pl (by simp only [kz] <;> lia) ⟨.int ys.length,H,I.tok _,⟨s.toks+1,by rw [kz,hlen]⟩,q⟩
theorem z05:Jl X (.builtin "len") (fun xs H Q=>∃z,xs=[.str z]∧z.length≤sizeLine∧Q (.int z.length) H):=by
 intro pins s σ H xs us Q I r h
 obtain ⟨z,rfl,hz,q⟩:=h
 obtain ⟨u,rfl,t,rfl⟩:=z3Z r
 have hn:=QD
 exact len_str (by lia) ⟨.int z.length,H,I.tok _,⟨_,rfl⟩,q⟩
theorem z04:Jl X (.type "list") (fun xs H Q=>∃p ys,xs=[.ref p]∧(SqL X.K H p ys∨SqT X.K H p ys)∧∀l,H l=none→Q (.ref l) (upd H l (.lst ys))):=by
 intro pins s σ H xs us Q I r h
 obtain ⟨p,ys,rfl,hq,q⟩:=h
 obtain ⟨u,rfl,rx⟩:=z3Z r
 cases rx
 have fin:∀(its:List Value),Vals ys its→ys.length≤sizeLine→∀(h':Heap) (c':Nat),(∀b o',s.heap.get? b=some o'→h'.get? b=some o')→
   h'.get? s.heap.objs.size=some { cls:=.type "list",dict:=none,data:=.seq its.toArray c',slots:=#[] }→EP X pins σ Q (.ref s.heap.objs.size) { s with heap:=h' }:=fun its r' hz h' c' kp e=>
  ⟨.ref s.heap.objs.size,_,I.laid (t':=s.toks) kp (kc _) (show qi X.prog X.w _ h' _ (.lst ys) from ⟨hz,its,c',r',e⟩),rfl,q _ (I.hok.fresh (kc _))⟩
 rcases hq with hq | hq
 ·obtain ⟨its,r',pl,hz⟩:=I.list hq
  have hlen:=r'.length
  obtain ⟨o,ho,hc,n,hd⟩:=pl.isList
  exact call_list_seq p (.inl rfl) ho hc hd (fun h' c' kp e=>fin its r' hz h' c' kp e) (by simp only [kz] <;> lia)
 ·obtain ⟨its,r',pl,hz⟩:=I.tuple hq
  have hlen:=r'.length
  obtain ⟨o,ho,hc,n,hd⟩:=pl
  exact call_list_seq p (.inr rfl) ho hc hd (fun h' c' kp e=>fin its r' hz h' c' kp e) (by simp only [kz] <;> lia)
def tyV (K:ko) (T:String) (x:V) (H:Hp):Prop:=match x with
 | .str _=>T="str"
 | .int _=>T="int"
 | .ref p=>(T="list"∧∃xs,SqL K H p xs)∨(T="tuple"∧∃o,K.lookup p=some o∧o.cls=.type "tuple"∧o.dict=none)∨
   (T="dict"∧((∃kvs,H p=some (.dK kvs))∨∃kvs,H p=some (.dT kvs)))∨(T="set"∧∃S n,H p=some (.set S n))
 | _=>False
theorem z52 {pins:List (Addr × Obj)} {σ:St} {H:Hp} {s:Shared} {T:String} {x:V} {v:Value} (I:Inv X pins σ H s) (r:RelV x v) (ty:tyV X.K T x H):
  s.TypeIs v T∧∀a,v=.ref a→∃ob,s.heap.get? a=some ob∧ob.dict=none:=by
 cases x with
 | str z=>
  obtain ⟨t,rfl⟩:=r
  cases (show T="str" from ty)
  exact ⟨typeIs_str s z t,fun _ e=>nomatch e⟩
 | int i=>
  obtain ⟨t,rfl⟩:=r
  cases (show T="int" from ty)
  exact ⟨typeIs_int s i t,fun _ e=>nomatch e⟩
 | ref p=>
  cases r
  rcases ty with ⟨rfl,xs,hq⟩ | ⟨rfl,o,hk,hc,hd⟩ | ⟨rfl,hk⟩ | ⟨rfl,S,n,hk⟩
  ·obtain ⟨its,_,pl,_⟩:=I.list hq
   refine ⟨pl.isList.typeIs,fun a e=>?_⟩
   cases e
   obtain ⟨o,n,e,c,hd,_⟩:=pl
   exact ⟨o,e,hd⟩
  ·refine ⟨⟨o,I.kIn p o hk,hc⟩,fun a e=>?_⟩
   cases e
   exact ⟨o,I.kIn _ o hk,hd⟩
  ·have z:∃o,s.heap.get? p=some o∧o.ExactDict:=by
    rcases hk with ⟨kvs,hk⟩ | ⟨kvs,hk⟩
    ·obtain ⟨_,_,_,_,o,_,_,e,ex,_⟩:=I.hok p _ hk
     exact ⟨o,e,ex⟩
    ·obtain ⟨_,_,_,_,o,_,_,e,ex,_⟩:=I.hok p _ hk
     exact ⟨o,e,ex⟩
   obtain ⟨o,e,ex⟩:=z
   refine ⟨⟨o,e,ex.1⟩,fun a e2=>?_⟩
   cases e2
   exact ⟨o,e,ex.2.1⟩
  ·obtain ⟨o,_,_,_,e,ex,_⟩:=I.hok p _ hk
   refine ⟨⟨o,e,ex.1⟩,fun a e2=>?_⟩
   cases e2
   exact ⟨o,e,ex.2.1⟩
 | _=>exact False.elim ty
def tBM0 (K:ko) (T:String) (r:V→List V→Hp→VK→Prop) (to:TE):TE:=fun σ H Q=>to σ H fun x H1=>tyV K T x H1∧r x [] H1 Q
def tBM (K:ko) (T:String) (r:V→List V→Hp→VK→Prop) (to:TE) (t:TA):TE:=fun σ H Q=>to σ H fun x H1=>tyV K T x H1∧t σ H1 fun xs H2=>r x xs H2 Q
variable {o e:Expr} {es:List Expr} {to:TE} {t:TA} {name:Str} {apos cpos:Pos} {T id:String} {r:V→List V→Hp→VK→Prop}
theorem z0Z (pa:PlainAttrs T) (slot:Slot T name id) (hty:typeOf (.builtin id)=pure (.type "method_descriptor")) (hm:MtR X id r) (ho:PE X o to)
  (hbase:autoParam (attributeBase o name X.env (eval o X.env)=eval o X.env) aR._auto_1) (hline:autoParam ((apos.endLine == cpos.line)=true) aR._auto_1):PE X (.Call (.Attribute o name apos) [] [] cpos) (tBM0 X.K T r to):=by
 intro pins s σ H Q I h
 refine wpAny_Call_method0_late hbase hline (thn (ho pins s σ H _ I h) fun v s1 zz=>?_)
 obtain ⟨x,H1,I1,r1,ty,q1⟩:=zz
 obtain ⟨h1,h2⟩:=z52 I1 r1 ty
 exact ⟨T,id,pa,slot,hty,h1,h2,Calls.callWith_builtin rfl (PySem.evalArgs_none (hm pins s1 σ H1 x [] v [] Q I1 r1 .nil q1))⟩
theorem z5L (pa:PlainAttrs T) (slot:Slot T name id) (hty:typeOf (.builtin id)=pure (.type "method_descriptor")) (hm:MtR X id r) (ho:PE X o to) (ha:PA X (e :: es) t)
  (hbase:autoParam (attributeBase o name X.env (eval o X.env)=eval o X.env) aR._auto_1)
  (hfew:autoParam (((backTo cpos (starEach (e :: es) X.env)).all (fun x=> !x.1)&&(backToKw cpos (keywordEach [] X.env)).all (fun x=>x.1.isSome)
   &&decide ((e :: es).length+([]:List Keyword).length+(if ([]:List Keyword).isEmpty then 0 else 1) < 30))=true) aR._auto_1)
  (hline:autoParam ((apos.endLine == cpos.line)=true) aR._auto_1) (hs:autoParam (starEach (e :: es) X.env=(false,eval e X.env) :: starEach es X.env) aR._auto_1) (hplain:autoParam ((backTo cpos (starEach es X.env)).any (·.1)=false) aR._auto_1):
  PE X (.Call (.Attribute o name apos) (e :: es) [] cpos) (tBM X.K T r to t):=by
 intro pins s σ H Q I h
 refine wpAny_Call_method_late hbase hfew hline rfl (thn (ho pins s σ H _ I h) fun v s1 zz=>?_)
 obtain ⟨x,H1,I1,r1,ty,q1⟩:=zz
 obtain ⟨h1,h2⟩:=z52 I1 r1 ty
 refine ⟨T,id,pa,slot,hty,h1,h2,?_⟩
 have hA:=ha cpos pins s1 σ H1 _ I1 q1
 rw [hs] at hA ⊢
 refine Calls.callWith_builtin (by show (false||(backTo cpos (starEach es X.env)).any (·.1))=false;rw [hplain] <;> rfl) (Calls.evalArgs_plain ?_)
 exact thn hA fun us s2 ⟨vs,H2,I2,r2,q2⟩=>hm pins s2 σ H2 x vs v us Q I2 r1 r2 q2
end
end L2
namespace L2
open PySem PySem.Spec PyProof.Rows
def MtM (X:Cx) (id:String) (r:V→List V→Hp→VK→Prop):Prop:=
 ∀(pins:List (Addr × Obj)) (s:Shared) (σ:St) (H:Hp) (x:V) (xs:List V) (v:Value) (us:List Value) (Q:VK),Inv X pins σ H s→RelV x v→Vals xs us→r x xs H Q→
  wpAny (model X.prog X.w) X.A (call (.builtin id) (v :: us)) (EP X pins σ Q) X.xe s
theorem Vals.one:∀{x:V} {us:List Value},Vals [x] us→∃u,us=[u]∧RelV x u
 | _,_,.cons r .nil=>⟨_,rfl,r⟩
theorem Vals.two:∀{x y:V} {us:List Value},Vals [x,y] us→∃u v,us=[u,v]∧RelV x u∧RelV y v
 | _,_,_,.cons r (.cons q .nil)=>⟨_,_,rfl,r,q⟩
theorem Vals.zero:∀{us:List Value},Vals [] us→us=[]
 | _,.nil=>rfl
theorem Vals.dropLast {xs:List V} {us:List Value} (h:Vals xs us):Vals xs.dropLast us.dropLast:=by
 induction h with
 | nil=>exact .nil
 | cons r t ih=>
  cases t with
  | nil=>exact .nil
  | cons q t'=>exact .cons r ih
theorem Vals.eraseIdx:∀{xs:List V} {us:List Value} (i:Nat),Vals xs us→Vals (xs.eraseIdx i) (us.eraseIdx i)
 | _,_,_,.nil=>.nil
 | _,_,0,.cons _ t=>t
 | _,_,i+1,.cons r t=>.cons r (Vals.eraseIdx i t)
theorem Vals.rep {xs:List V} {us:List Value} (h:Vals xs us):∀k:Nat,Vals (List.replicate k xs).flatten (List.replicate k us).flatten
 | 0=>.nil
 | k+1=>by
  rw [List.replicate_succ,List.replicate_succ,List.flatten_cons,List.flatten_cons]
  exact Vals.append h (Vals.rep h k)
theorem z20 {α:Type} (l:List α):l.eraseIdx (l.length - 1)=l.dropLast:=by
 induction l with
 | nil=>rfl
 | cons a r ih=>
  cases r with
  | nil=>rfl
  | cons b r=>
   have e:(a :: b :: r).length - 1=((b :: r).length - 1)+1:=by
    have h1:(a :: b :: r).length=r.length+2:=rfl
    have h2:(b :: r).length=r.length+1:=rfl
    lia
   rw [e,List.eraseIdx_cons_succ,ih]
   all_goals rfl
theorem JL {α:Type}:∀(l:List α) (i:Nat),(l.eraseIdx i).length≤l.length
 | [],_=>kc _
 | _ :: _,0=>Nat.le_succ _
 | _ :: r,i+1=>Nat.succ_le_succ (JL r i)
theorem JR (its:List Value):∀(k:Nat) (acc:List Value),
  List.foldl (fun x1 x2=>x1++x2) acc.toArray (List.replicate k its.toArray)=(acc++(List.replicate k its).flatten).toArray
 | 0,acc=>by simp
 | k+1,acc=>by
  have e:acc.toArray++its.toArray=(acc++its).toArray:=by simp
  have e2:(acc++its)++(List.replicate k its).flatten=acc++(List.replicate (k+1) its).flatten:=by
   rw [List.replicate_succ,List.flatten_cons,kR]
  rw [←e2,←JR its k (acc++its),←e,List.replicate_succ,List.foldl_cons]
section
variable {X:Cx} {pins:List (Addr × Obj)} {σ:St} {H:Hp} {s:Shared} {l b:Addr} {xs ys zs:List V}
theorem Inv.lset {its its':List Value} {n:Nat} {f:Array Value→Array Value} {t':Nat} (I:Inv X pins σ H s) (hH:H l=some (.lst xs))
  (e:s.heap.get? l=some { cls:=.type "list",data:=.seq its.toArray n }) (hf:f its.toArray=its'.toArray) (hv:Vals ys its') (hz:ys.length≤sizeLine):
  Inv X pins σ (upd H l (.lst ys)) { s with heap:=s.heap.update l (Obj.mapSeq f),toks:=t' }:=by
 have q:=PySem.IsL.update e f
 rw [hf] at q
 refine I.write (x:=l) (e:=l) (by rw [hH];exact trivial) (.inl rfl) (fun b' u hb hu=>(Heap.get?_update_other s.heap (Obj.mapSeq f) (Ne.symm hb)).trans hu) ⟨_,q⟩ ?_
 exact ⟨hz,its',_,hv,q⟩
theorem Inv.lnew {its:List Value} {t':Nat} (I:Inv X pins σ H s) (hv:Vals ys its) (hz:ys.length≤sizeLine):
  Inv X pins σ (upd H s.heap.objs.size (.lst ys)) { s with heap:=s.heap.push { cls:=.type "list",data:=.seq its.toArray },toks:=t' }:=
 I.laid (fun _ _ q=>Heap.get?_push_of_some _ q) (kc _) ⟨hz,its,0,hv,Heap.get?_push_size _ rfl⟩
theorem Inv.fresh (I:Inv X pins σ H s):H s.heap.objs.size=none:=I.hok.fresh (kc _)
theorem Inv.lstM (I:Inv X pins σ H s) (hH:H l=some (.lst xs)):xs.length≤sizeLine∧∃(its:List Value) (n:Nat),Vals xs its∧xs.length=its.length∧s.heap.get? l=some { cls:=.type "list",data:=.seq its.toArray n }:=by
 obtain ⟨z,its,n,r,e⟩:=I.hok l _ hH
 exact ⟨z,its,n,r,r.length,e⟩
theorem z14 {n:Nat} (h:n≤sizeLine):Builtin.List.listTooLong n=false:=by
 unfold Builtin.List.listTooLong
 exact kf (by lia)
end
section
variable {X:Cx}
def z0o:V→List V→Hp→VK→Prop:=fun x vs H Q=>∃l xs y,x=.ref l∧vs=[y]∧H l=some (.lst xs)∧xs.length < sizeLine∧Q .non (upd H l (.lst (xs++[y])))
theorem z30:MtM X "list.append" z0o:=by
 intro pins s σ H x vs v us Q I rx rv h
 obtain ⟨l,xs,y,rfl,rfl,hH,hz,q⟩:=h
 cases rx
 obtain ⟨u,rfl,ru⟩:=rv.one
 obtain ⟨z,its,n,r,hl,e⟩:=I.lstM hH
 refine call_meets F.slot_list_append ⟨_,e,rfl⟩ F.entry_list_append (F.args_list_append_2 _ _) (PySem.list_append l its.toArray n u (by rw [kz];lia)) ⟨e,?_⟩
 refine ⟨.non,_,I.lset (its':=its++[u]) hH e (by simp) (r.append (.cons ru .nil)) ?_,rfl,q⟩
 rw [ki,kC]
 lia
def z5G:V→List V→Hp→VK→Prop:=fun x vs H Q=>∃l b xs zs,x=.ref l∧vs=[.ref b]∧H l=some (.lst xs)∧H b=some (.lst zs)∧xs.length+zs.length≤sizeLine∧Q .non (upd H l (.lst (xs++zs)))
theorem z2Z:MtM X "list.extend" z5G:=by
 intro pins s σ H x vs v us Q I rx rv h
 obtain ⟨l,b,xs,zs,rfl,rfl,hH,hB,hz,q⟩:=h
 cases rx
 obtain ⟨u,rfl,ru⟩:=rv.one
 cases ru
 obtain ⟨z,its,n,r,hl,e⟩:=I.lstM hH
 obtain ⟨z2,its2,n2,r2,hl2,e2⟩:=I.lstM hB
 have hsz:its.toArray.size+its2.toArray.size≤sizeLine:=by rw [kz,kz];lia
 have hlong:¬(!its.toArray.isEmpty&&Builtin.List.listTooLong (its.toArray.size+its2.toArray.size))=true:=by
  rw [z14 hsz,Bool.and_false]
  exact ka
 refine call_meets F.slot_list_extend ⟨_,e,rfl⟩ F.entry_list_extend (F.args_list_extend_2 _ _)
  (AutoSeq1.list_extend_list_list_0 l its.toArray n b its2.toArray n2 hlong (by rw [kz];lia) (by lia)) ⟨e,e2,?_⟩
 refine ⟨.non,_,I.lset (its':=its++its2) hH e (by simp) (r.append r2) ?_,rfl,q⟩
 rw [ki]
 lia
def rPop:V→List V→Hp→VK→Prop:=fun x vs H Q=>∃l xs y,x=.ref l∧vs=[]∧H l=some (.lst xs)∧xs[xs.length - 1]?=some y∧Q y (upd H l (.lst xs.dropLast))
theorem z76:MtM X "list.pop" rPop:=by
 intro pins s σ H x vs v us Q I rx rv h
 obtain ⟨l,xs,y,rfl,rfl,hH,hy,q⟩:=h
 cases rx
 have hus:=rv.zero
 subst hus
 obtain ⟨z,its,n,r,hl,e⟩:=I.lstM hH
 obtain ⟨u,hu,ru⟩:=r.get hy
 have hy':its.toArray[its.toArray.size - 1]?=some u:=by
  show its.toArray[its.length - 1]?=some u
  rw [←Array.getElem?_toList,←hl]
  exact hu
 refine call_meets F.slot_list_pop ⟨_,e,rfl⟩ F.entry_list_pop (F.args_list_pop_1 _) (MeetsSeq.list_pop_last l its.toArray n u hy' (by rw [kz];lia)) ⟨e,?_⟩
 refine ⟨y,_,I.lset (its':=its.dropLast) hH e ?_ r.dropLast ?_,ru,q⟩
 ·show its.toArray.eraseIdxIfInBounds (its.toArray.size - 1)=its.dropLast.toArray
  rw [kz,List.eraseIdxIfInBounds_toArray,z20]
 ·rw [List.length_dropLast]
  lia
def z6S:V→List V→Hp→VK→Prop:=fun x vs H Q=>∃l xs i k y,x=.ref l∧vs=[.int i]∧H l=some (.lst xs)∧-(2 ^ 63)≤i∧i < 2 ^ 63∧seqIndex? i xs.length=some k∧xs[k]?=some y∧Q y (upd H l (.lst (xs.eraseIdx k)))
theorem z4o:MtM X "list.pop" z6S:=by
 intro pins s σ H x vs v us Q I rx rv h
 obtain ⟨l,xs,i,k,y,rfl,rfl,hH,h1,h2,hk,hy,q⟩:=h
 cases rx
 obtain ⟨u,rfl,ru⟩:=rv.one
 obtain ⟨t,rfl⟩:=ru
 obtain ⟨z,its,n,r,hl,e⟩:=I.lstM hH
 obtain ⟨w,hw,rw'⟩:=r.get hy
 refine call_meets F.slot_list_pop ⟨_,e,rfl⟩ F.entry_list_pop (F.args_list_pop_2 _ _)
  (MeetsSeq.list_pop_at l its.toArray n i t k w (fitsIndex_both h1 h2) (by rw [kz,←hl];exact hk) (by rw [←Array.getElem?_toList];exact hw) (by rw [kz];lia)) ⟨e,?_⟩
 refine ⟨y,_,I.lset (its':=its.eraseIdx k) hH e ?_ (r.eraseIdx k) ?_,rw',q⟩
 ·show its.toArray.eraseIdxIfInBounds k=(its.eraseIdx k).toArray
  rw [List.eraseIdxIfInBounds_toArray]
 ·have:=JL xs k
  lia
def rCat:R2:=fun x y H Q=>∃l b xs zs,x=.ref l∧y=.ref b∧H l=some (.lst xs)∧H b=some (.lst zs)∧xs.length+zs.length≤sizeLine∧∀p,H p=none→Q (.ref p) (upd H p (.lst (xs++zs)))
theorem z5h:OpR X (binaryOp .Add) rCat:=by
 intro pins s σ H x y v u Q I rx ry h
 obtain ⟨l,b,xs,zs,rfl,rfl,hH,hB,hz,q⟩:=h
 cases rx
 cases ry
 obtain ⟨z,its,n,r,hl,e⟩:=I.lstM hH
 obtain ⟨z2,its2,n2,r2,hl2,e2⟩:=I.lstM hB
 refine PySem.P.add_list e e2 ?_ (by rw [kz,kz];lia)
 have ea:its.toArray++its2.toArray=(its++its2).toArray:=by simp
 rw [ea]
 exact ⟨.ref _,_,I.lnew (t':=s.toks) (r.append r2) (by rw [ki];lia),rfl,q _ I.fresh⟩
def rRep:R2:=fun x y H Q=>∃l k xs,x=.ref l∧y=.int k∧H l=some (.lst xs)∧-(2 ^ 63)≤k∧k < 2 ^ 63∧xs.length * k.toNat≤sizeLine∧
 ∀p,H p=none→Q (.ref p) (upd H p (.lst (List.replicate k.toNat xs).flatten))
theorem z5T {α:Type} (xs:List α) (k:Nat):(List.replicate k xs).flatten.length=k * xs.length:=by
 induction k with
 | zero=>simp
 | succ k ih=>rw [List.replicate_succ,List.flatten_cons,ki,ih,Nat.succ_mul,Nat.add_comm]
theorem z6Z:OpR X (binaryOp .Mult) rRep:=by
 intro pins s σ H x y v u Q I rx ry h
 obtain ⟨l,k,xs,rfl,rfl,hH,h1,h2,hz,q⟩:=h
 cases rx
 obtain ⟨t,rfl⟩:=ry
 obtain ⟨z,its,n,r,hl,e⟩:=I.lstM hH
 have hlen:its.toArray.size * k.toNat≤sizeLine:=by rw [kz,←hl];exact hz
 have hcap:¬its.toArray.size * k.toNat > (2 ^ 63 - 1) / 8:=by
  have:(sizeLine:Nat)≤(2 ^ 63 - 1) / 8:=by decide
  lia
 have hfit:¬(!Builtin.List.listFitsIndex k)=true:=by
  rw [fitsIndex_both h1 h2]
  exact ka
 have hlong:¬Builtin.List.listTooLong (its.toArray.size * k.toNat)=true:=by
  rw [z14 hlen]
  exact ka
 have hnew:List.foldl (fun x1 x2=>x1++x2) #[] (List.replicate (if its.toArray.isEmpty=true then 0 else k.toNat) its.toArray)=(List.replicate k.toNat its).flatten.toArray:=by
  have f0:∀m:Nat,List.foldl (fun x1 x2=>x1++x2) #[] (List.replicate m its.toArray)=(List.replicate m its).flatten.toArray:=fun m=>by
   have:=JR its m []
   rw [List.nil_append] at this
   exact this
  rw [f0]
  cases its with
  | nil=>simp
  | cons a r'=>rw [kq (by simp)]
 refine wpAny_binaryOp_repeat_ref (T:="list") (U:="int") (by decide) ⟨_,e,rfl⟩ (fun s'=>typeIs_int s' k t) noFill_list_mul F.fills_int_mul F.slot_int_rmul repeat_list F.slot_int_index.lookup
  (call_meets F.slot_int_rmul (typeIs_int s k t) F.entry_int_rmul (F.args_int_rmul_2 _ _) (int___rmul___int_list k t l its.toArray n)
   ⟨e,rfl,⟨_,e,rfl⟩,call_meets F.slot_list_mul ⟨_,e,rfl⟩ F.entry_list_mul (F.args_list_mul_2 _ _) (AutoListH.list___mul___list_int_3 l its.toArray n k t hfit hcap hlong) ⟨e,?_⟩⟩)
 rw [hnew]
 exact ⟨.ref _,_,I.lnew (t':=s.toks) (r.rep k.toNat) (by rw [z5T,Nat.mul_comm];exact hz),rfl,q _ I.fresh⟩
end
section
variable {prog:Program} {w:World} {A:Around} {E:Value→Shared→Prop} {s:Shared}
set_option maxRecDepth 100000 in
end
section
variable {X:Cx}
end
end L2
namespace L2
open PySem PySem.Spec PyProof.Rows
section
variable {κ:Type} [DecidableEq κ]
noncomputable def valV (kvs:List (κ × V)) (k:κ):Option V:=(kvs.find? fun kv=>decide (kv.1=k)).map (·.2)
noncomputable def putK (kvs:List (κ × V)) (k:κ) (v:V):List (κ × V):=
 if (kvs.any fun kv=>decide (kv.1=k))=true then kvs.map (fun kv=>if kv.1=k then (kv.1,v) else kv) else kvs++[(k,v)]
theorem qy {p:κ × V} {r:List (κ × V)} {k:κ} (e:p.1=k):valV (p :: r) k=some p.2:=by simp [valV,List.find?_cons,e]
theorem qz {p:κ × V} {r:List (κ × V)} {k:κ} (e:¬p.1=k):valV (p :: r) k=valV r k:=by simp [valV,List.find?_cons,e]
theorem Z9 (k:κ):∀kvs:List (κ × V),(kvs.any fun kv=>decide (kv.1=k))=(valV kvs k).isSome
 | []=>rfl
 | p :: r=>by
  rw [List.any_cons]
  by_cases e:p.1=k
  ·simp only [qy e,kg e,Bool.true_or,Option.isSome_some]
  ·rw [qz e,kf e,Bool.false_or];exact Z9 k r
theorem z0K (k j:κ) (y:V):∀kvs:List (κ × V),valV (kvs.map fun kv=>if kv.1=k then (kv.1,y) else kv) j=(valV kvs j).map fun x=>if j=k then y else x
 | []=>rfl
 | p :: r=>by
  have ih:=z0K k j y r
  rw [kP]
  by_cases h:p.1=k
  ·rw [kr h]
   by_cases e:p.1=j
   ·rw [qy (p:=(p.1,y)) e,qy e,Option.map_some,kr (e.symm.trans h)]
   ·rw [qz (p:=(p.1,y)) e,qz e,ih]
  ·rw [kq h]
   by_cases e:p.1=j
   ·rw [qy (p:=p) e,qy e,Option.map_some,kq (fun z=>h (e.trans z))]
   ·rw [qz (p:=p) e,qz e,ih]
theorem Jn (k j:κ) (y:V):∀kvs:List (κ × V),valV kvs k=none→valV (kvs++[(k,y)]) j=if j=k then some y else valV kvs j
 | [],_=>by
  by_cases e:k=j
  ·rw [kr e.symm];exact qy (p:=(k,y)) e
  ·rw [kq (fun z=>e z.symm)];exact qz (p:=(k,y)) e
 | p :: r,hn=>by
  rw [List.cons_append]
  have hk:¬p.1=k:=fun z=>by rw [qy z] at hn;cases hn
  rw [qz hk] at hn
  have ih:=Jn k j y r hn
  by_cases e:p.1=j
  ·rw [qy e,qy e,kq (fun z=>hk (e.trans z))]
  ·rw [qz e,qz e,ih]
theorem Z8 (kvs:List (κ × V)) (k j:κ) (y:V):valV (putK kvs k y) j=if j=k then some y else valV kvs j:=by
 unfold putK
 by_cases a:(kvs.any fun kv=>decide (kv.1=k))=true
 ·rw [kr a,z0K]
  rw [Z9] at a
  by_cases e:j=k
  ·obtain ⟨x,hx⟩:=Option.isSome_iff_exists.mp a
   rw [kr e,e,hx,Option.map_some,kr rfl]
  ·rw [kq e]
   cases valV kvs j with
   | none=>rfl
   | some x=>rw [Option.map_some,kq e]
 ·rw [kq a]
  refine Jn k j y kvs ?_
  rw [Z9] at a
  cases q:valV kvs k with
  | none=>rfl
  | some x=>rw [q] at a;exact (a rfl).elim
theorem qp (kvs:List (κ × V)) (k:κ) (v:V):(putK kvs k v).length≤kvs.length+1:=by
 unfold putK
 split
 ·rw [kh];lia
 ·rw [ki,kL,List.length_nil];lia
theorem z46 {kvs:List (κ × V)} {k:κ} (v:V) (h:valV kvs k=none):putK kvs k v=kvs++[(k,v)]:=by
 unfold putK
 rw [Z9,h]
 exact kq (by decide)
theorem RelO.isSome_eq {o:Option V} {u:Option Value} (r:RelO o u):o.isSome=u.isSome:=by
 cases o with
 | none=>cases u with
  | none=>rfl
  | some _=>exact (show False from r).elim
 | some _=>cases u with
  | none=>exact (show False from r).elim
  | some _=>rfl
theorem RelO.getD {o:Option V} {u:Option Value} {d:V} {d':Value} (r:RelO o u) (rd:RelV d d'):RelV (o.getD d) (u.getD d'):=by
 cases o with
 | none=>cases u with
  | none=>exact rd
  | some _=>exact (show False from r).elim
 | some _=>cases u with
  | none=>exact (show False from r).elim
  | some _=>exact r
theorem KV.val {kvs:List (κ × V)} {vs:List (κ × Value)} (r:KV kvs vs) (k:κ):RelO (valV kvs k) (valueAt vs k):=by
 unfold KV at r
 induction r with
 | nil=>exact True.intro
 | @cons p q ps qs h t ih=>
  obtain ⟨h1,h2⟩:=h
  by_cases e:p.1=k
  ·have e':q.1=k:=h1.symm.trans e
   have b:valueAt (q :: qs) k=some q.2:=by simp [valueAt,List.find?_cons,e']
   rw [qy e,b];exact h2
  ·have e':¬q.1=k:=fun z=>e (h1.trans z)
   have b:valueAt (q :: qs) k=valueAt qs k:=by simp [valueAt,List.find?_cons,e']
   rw [qz e,b];exact ih
theorem KV.any {kvs:List (κ × V)} {vs:List (κ × Value)} (r:KV kvs vs) (k:κ):(kvs.any fun kv=>decide (kv.1=k))=vs.any fun kv=>decide (kv.1=k):=by
 unfold KV at r
 induction r with
 | nil=>rfl
 | cons h t ih=>rw [List.any_cons,List.any_cons,ih,h.1]
theorem KV.repl {kvs:List (κ × V)} {vs:List (κ × Value)} (r:KV kvs vs) (k:κ) {y:V} {u:Value} (ry:RelV y u):
  KV (kvs.map fun kv=>if kv.1=k then (kv.1,y) else kv) (vs.map fun kv=>if kv.1=k then (kv.1,u) else kv):=by
 unfold KV at r ⊢
 induction r with
 | nil=>exact .nil
 | @cons p q ps qs h t ih=>
  rw [kP,kP]
  refine .cons ?_ ih
  obtain ⟨h1,h2⟩:=h
  by_cases e:p.1=k
  ·rw [kr e,kr (h1.symm.trans e)];exact ⟨h1,ry⟩
  ·rw [kq e,kq (fun z=>e (h1.trans z))];exact ⟨h1,h2⟩
theorem KV.put {kvs:List (κ × V)} {vs:List (κ × Value)} (r:KV kvs vs) (k:κ) {y:V} {u:Value} (ry:RelV y u):KV (putK kvs k y) (stored vs k u):=by
 unfold putK stored
 rw [r.any k]
 by_cases e:(vs.any fun kv=>decide (kv.1=k))=true
 ·rw [kr e,kr e];exact r.repl k ry
 ·rw [kq e,kq e];exact Paired.snoc r ⟨rfl,ry⟩
theorem KV.length {kvs:List (κ × V)} {vs:List (κ × Value)} (r:KV kvs vs):kvs.length=vs.length:=Paired.length r
end
theorem J7 {P:Program} {w:World} {k:Key} {u:Value} (r:RelV (kV k) u):(zI P w).is k u=true:=by
 cases k with
 | inl i=>obtain ⟨t,e⟩:=(show ∃t,u=Value.int i t from r);subst e;exact z0t P w i t
 | inr x=>obtain ⟨t,e⟩:=(show ∃t,u=Value.str x t from r);subst e;exact z0s P w x t
theorem JO {P:Program} {w:World}:∀{ks:List Key} {us:List Value},Vals (ks.map kV) us→ItemsAre (zI P w) ks us
 | [],_,r=>by rw [List.map_nil] at r;cases r;exact .nil
 | k :: ks,_,r=>by
  rw [kP] at r
  cases r with
  | cons h t=>exact .cons (J7 h) (JO t)
abbrev KT (H:Hp):List (List Key × V)→List (List Key × Addr × Value)→Prop:=Paired fun p q=>p.1=q.1∧H q.2.1=some (.tup (p.1.map kV))∧RelV p.2 q.2.2
theorem KT.val {H:Hp} {kvs:List (List Key × V)} {xs:List (List Key × Addr × Value)} (r:KT H kvs xs) (k:List Key):RelO (valV kvs k) ((atKey xs k).map (·.2)):=by
 induction r with
 | nil=>exact True.intro
 | @cons p q ps qs h t ih=>
  obtain ⟨h1,_,h2⟩:=h
  by_cases e:p.1=k
  ·have e':q.1=k:=h1.symm.trans e
   have b:atKey (q :: qs) k=some q.2:=by simp [atKey,List.find?_cons,e']
   rw [qy e,b];exact h2
  ·have e':¬q.1=k:=fun z=>e (h1.trans z)
   have b:atKey (q :: qs) k=atKey qs k:=by simp [atKey,List.find?_cons,e']
   rw [qz e,b];exact ih
theorem KT.repl {H:Hp} {kvs:List (List Key × V)} {xs:List (List Key × Addr × Value)} (r:KT H kvs xs) (k:List Key) {y:V} {u:Value} (ry:RelV y u):
  KT H (kvs.map fun kv=>if kv.1=k then (kv.1,y) else kv) (xs.map (putAt k u)):=by
 induction r with
 | nil=>exact .nil
 | @cons p q ps qs h t ih=>
  rw [kP,kP]
  refine .cons ?_ ih
  obtain ⟨h1,h2,h3⟩:=h
  unfold putAt
  by_cases e:p.1=k
  ·rw [kr e,kr (h1.symm.trans e)];exact ⟨h1,h2,ry⟩
  ·rw [kq e,kq (fun z=>e (h1.trans z))];exact ⟨h1,h2,h3⟩
theorem KT.put {H:Hp} {kvs:List (List Key × V)} {xs:List (List Key × Addr × Value)} (r:KT H kvs xs) (k:List Key) {b:Addr} {y:V} {u:Value} (hb:H b=some (.tup (k.map kV))) (ry:RelV y u):
  KT H (putK kvs k y) (storedH xs k b u):=by
 have e:(kvs.any fun kv=>decide (kv.1=k))=(atKey xs k).isSome:=by
  rw [Z9,(r.val k).isSome_eq,Option.isSome_map]
 unfold putK storedH
 rw [e]
 by_cases q:(atKey xs k).isSome=true
 ·rw [kr q,kr q];exact r.repl k ry
 ·rw [kq q,kq q];exact Paired.snoc r ⟨rfl,hb,ry⟩
theorem KT.keeps {H H':Hp} {kvs:List (List Key × V)} {xs:List (List Key × Addr × Value)} (r:KT H kvs xs) (ht:∀b ys,H b=some (.tup ys)→H' b=some (.tup ys)):KT H' kvs xs:=
 Paired.mapP r fun _ _ z=>⟨z.1,ht _ _ z.2.1,z.2.2⟩
section
variable {P:Program} {w:World} {H:Hp} {h:Heap} {a:Addr}
theorem z6R {u:HO} (ok:HOk P w H h) (e:Rd H a u):qi P w H h a u:=e.ok ok
theorem z0z {kvs:List (Key × V)} (ok:HOk P w H h) (e:Rd H a (.dK kvs)):kvs.length≤sizeLine∧(a == sysModules)=false∧∃vs,KV kvs vs∧h.DictOf (zI P w) a vs:=
 show qi P w H h a (.dK kvs) from z6R ok e
theorem z21 {kvs:List (Key × V)} (ok:HOk P w H h) (e:H a=some (.dK kvs)):kvs.length≤sizeLine∧(a == sysModules)=false∧∃vs,KV kvs vs∧h.DictOf (zI P w) a vs:=z0z ok (.inl e)
theorem QE {ks:List Key} (ok:HOk P w H h) (e:H a=some (.tup (ks.map kV))):(tupleKind (zI P w)).is h ks a:=by
 obtain ⟨_,its,r,o,h1,h2,n,h3⟩:=(show qi P w H h a (.tup (ks.map kV)) from ok a _ e)
 exact ⟨o,its.toArray,n,h1,h2,h3,by simpa using JO r⟩
theorem z0y {kvs:List (List Key × V)} (ok:HOk P w H h) (e:Rd H a (.dT kvs)):kvs.length≤sizeLine∧(a == sysModules)=false∧
  ∃xs,KT H kvs xs∧h.DictOfH (tupleKind (zI P w)) a xs:=by
 obtain ⟨z,y,xs,r,o,es,ep,h1,h2,h3,h4,h5⟩:=(show qi P w H h a (.dT kvs) from z6R ok e)
 refine ⟨z,y,xs,r,o,es,ep,h1,h2,h3,h4,fun x hx=>?_,h5⟩
 have all:∀{l:List (List Key × V)} {m:List (List Key × Addr × Value)},KT H l m→∀x∈m,(tupleKind (zI P w)).is h x.1 x.2.1:=by
  intro l m q
  induction q with
  | nil=>intro x hx;exact nomatch hx
  | @cons p q ps qs hq t ih=>
   intro x hx
   rcases ky.mp hx with e | hx
   ·subst e
    exact QE ok (by rw [←hq.1];exact hq.2.1)
   ·exact ih x hx
 exact all r x hx
theorem z8c {kvs:List (List Key × V)} (ok:HOk P w H h) (e:H a=some (.dT kvs)):kvs.length≤sizeLine∧(a == sysModules)=false∧
  ∃xs,KT H kvs xs∧h.DictOfH (tupleKind (zI P w)) a xs:=z0y ok (.inl e)
end
def DGet (H:Hp) (a:Addr) (y:V) (r:Option V):Prop:=
 (∃kvs k,Rd H a (.dK kvs)∧y=kV k∧r=valV kvs k)∨∃kvs k b,Rd H a (.dT kvs)∧y=.ref b∧H b=some (.tup (k.map kV))∧r=valV kvs k
def DPut (H:Hp) (a:Addr) (y v:V) (H':Hp):Prop:=
 (∃kvs k,H a=some (.dK kvs)∧y=kV k∧kvs.length < sizeLine∧H'=upd H a (.dK (putK kvs k v)))∨
 ∃kvs k b,H a=some (.dT kvs)∧y=.ref b∧H b=some (.tup (k.map kV))∧kvs.length < sizeLine∧H'=upd H a (.dT (putK kvs k v))
theorem DGet.k {H:Hp} {a:Addr} {kvs:List (Key × V)} {k:Key} (e:H a=some (.dK kvs)):DGet H a (kV k) (valV kvs k):=.inl ⟨kvs,k,.inl e,rfl,rfl⟩
theorem DPut.k {H:Hp} {a:Addr} {kvs:List (Key × V)} {k:Key} {v:V} (e:H a=some (.dK kvs)) (hl:kvs.length < sizeLine):DPut H a (kV k) v (upd H a (.dK (putK kvs k v))):=.inl ⟨kvs,k,e,rfl,hl,rfl⟩
section
variable {X:Cx} {pins:List (Addr × Obj)} {σ:St} {H:Hp} {s:Shared} {a:Addr} {y v:V} {u r:Value} {o:Option V} {A:Around} {E:Value→Shared→Prop}
theorem Inv.big (I:Inv X pins σ H s):sysModules < s.heap.objs.size:=by
 have h:mainGlobals < s.heap.objs.size:=(I.mod.glob.keeps I.bk).lt
 exact Nat.lt_trans (by decide) h
theorem z3C {Q:Value→Shared→Prop} (hu:A.units+1 < cLine) (I:Inv X pins σ H s) (g:DGet H a y (some v)) (ry:RelV y u) (h:∀w' s',Inv X pins σ H s'→RelV v w'→Q w' s'):
  wpAny (model X.prog X.w) A (getItem (.ref a) u) Q E s:=by
 rcases g with ⟨kvs,k,e,ey,l⟩ | ⟨kvs,k,b,e,ey,eb,l⟩
 ·subst ey
  obtain ⟨z,hd,vs,rel,dd⟩:=z0z I.hok e
  obtain ⟨w',hw,rw'⟩:=RelO.some_of (v:=v) (o:=valueAt vs k) (by rw [l];exact rel.val k)
  exact wpAny_getItem_of (J7 ry) dd.mapOf hw (h w' _ (I.tok _) rw')
 ·subst ey
  cases (show u=Value.ref b from ry)
  obtain ⟨z,hd,xs,rel,dd⟩:=z0y I.hok e
  obtain ⟨w',hw,rw'⟩:=RelO.some_of (v:=v) (o:=(atKey xs k).map (·.2)) (by rw [l];exact rel.val k)
  obtain ⟨p,hp,hp2⟩:=Option.map_eq_some_iff.mp hw
  refine wpAny_getItem_heap (tupleKind_room_in1 hu) (QE I.hok eb) dd hp ?_
  rw [hp2]
  exact h w' _ (I.tok _) rw'
theorem d_in {Q:Value→Shared→Prop} (hu:A.units+1 < cLine) (I:Inv X pins σ H s) (g:DGet H a y o) (ry:RelV y u) (h:∀s',Inv X pins σ H s'→Q (.bool o.isSome) s'):
  wpAny (model X.prog X.w) A (compareOp .In u (.ref a)) Q E s:=by
 rcases g with ⟨kvs,k,e,ey,l⟩ | ⟨kvs,k,b,e,ey,eb,l⟩
 ·subst ey
  obtain ⟨z,hd,vs,rel,dd⟩:=z0z I.hok e
  refine wpAny_in_of (J7 ry) hd dd.mapOf ?_
  rw [←(rel.val k).isSome_eq,←l]
  exact h _ (I.tok _)
 ·subst ey
  cases (show u=Value.ref b from ry)
  obtain ⟨z,hd,xs,rel,dd⟩:=z0y I.hok e
  refine wpAny_in_heap (tupleKind_room_in1 hu) (QE I.hok eb) hd dd ?_
  have q:=(rel.val k).isSome_eq
  rw [Option.isSome_map] at q
  rw [←q,←l]
  exact h _ (I.tok _)
theorem z6l {Q:Value→Shared→Prop} (hu:A.units+1 < cLine) (I:Inv X pins σ H s) (g:DGet H a y o) (ry:RelV y u) (h:∀s',Inv X pins σ H s'→Q (.bool (!o.isSome)) s'):
  wpAny (model X.prog X.w) A (compareOp .NotIn u (.ref a)) Q E s:=by
 rcases g with ⟨kvs,k,e,ey,l⟩ | ⟨kvs,k,b,e,ey,eb,l⟩
 ·subst ey
  obtain ⟨z,hd,vs,rel,dd⟩:=z0z I.hok e
  refine wpAny_notIn_of (J7 ry) hd dd.mapOf ?_
  rw [←(rel.val k).isSome_eq,←l]
  exact h _ (I.tok _)
 ·subst ey
  cases (show u=Value.ref b from ry)
  obtain ⟨z,hd,xs,rel,dd⟩:=z0y I.hok e
  refine wpAny_notIn_heap (tupleKind_room_in1 hu) (QE I.hok eb) hd dd ?_
  have q:=(rel.val k).isSome_eq
  rw [Option.isSome_map] at q
  rw [←q,←l]
  exact h _ (I.tok _)
theorem Je {h':Heap} {t':Nat} {ob:HO} (I:Inv X pins σ H s) (mu:Mut (H a)) (hs:Heap.SameBut a s.heap h') (he:∃q,h'.get? a=some q) (new:qi X.prog X.w (upd H a ob) h' a ob):
  Inv X pins σ (upd H a ob) { s with heap:=h',toks:=t' }:=
 I.write (x:=a) (e:=a) mu (.inl rfl) (fun b q hb z=>(hs.2 b hb).trans z) he new
theorem z1j {P:Program} {w:World} {H':Hp} {h':Heap} {kvs:List (Key × V)} {vs:List (Key × Value)} (z:kvs.length≤sizeLine) (hd:(a == sysModules)=false) (rel:KV kvs vs) (dd:h'.DictOf (zI P w) a vs):
  qi P w H' h' a (.dK kvs):=⟨z,hd,vs,rel,dd⟩
theorem z3B {H':Hp} {Q:Unit→Shared→Prop} (hu:A.units+1 < cLine) (I:Inv X pins σ H s) (g:DPut H a y v H') (ry:RelV y u) (rv:RelV v r) (h:∀s',Inv X pins σ H' s'→Q () s'):
  wpAny (model X.prog X.w) A (setItem (.ref a) u r) Q E s:=by
 rcases g with ⟨kvs,k,e,ey,l,eH⟩ | ⟨kvs,k,b,e,ey,eb,l,eH⟩
 ·subst ey eH
  obtain ⟨z,hd,vs,rel,dd⟩:=z21 I.hok e
  have hz:vs.length≤sizeLine:=by rw [←rel.length];exact z
  have hl:(putK kvs k v).length≤sizeLine:=by have:=qp kvs k v;lia
  refine wpAny_setItem_pairs (hsz:=hz) (J7 ry) dd fun h' dd' hs=>h _ ?_
  have he:∃q,h'.get? a=some q:=let ⟨q,_,_,hq,_⟩:=dd';⟨q,hq⟩
  exact Je I (by rw [e];exact True.intro) hs he (z1j hl hd (rel.put k rv) dd')
 ·subst ey eH
  cases (show u=Value.ref b from ry)
  obtain ⟨z,hd,xs,rel,dd⟩:=z8c I.hok e
  have hz:xs.length≤sizeLine:=by rw [←Paired.length rel];exact z
  have hl:(putK kvs k v).length≤sizeLine:=by have:=qp kvs k v;lia
  refine wpAny_setItem_heap (hsz:=hz) (tupleKind_room_in1 hu) (QE I.hok eb) dd fun h' dd' hs=>h _ ?_
  obtain ⟨q,es,ep,hq,h2,h3,h4,_,h5⟩:=dd'
  refine Je I (by rw [e];exact True.intro) hs ⟨q,hq⟩ ⟨hl,hd,_,(rel.put k eb rv).keeps fun c ys ec=>?_,q,es,ep,hq,h2,h3,h4,h5⟩
  rw [zg (jC ec e (fun z=>nomatch z))]
  exact ec
end
section
variable {X:Cx} {pins:List (Addr × Obj)} {σ:St} {H:Hp} {s:Shared} {a:Addr} {kvs:List (Key × V)} {k:Key} {u:Value} {A:Around} {E:Value→Shared→Prop}
end
def NoSl (i:Expr):Prop:=∀ov iv,subscripted i false ov iv=operate [ov,iv] (getItem ov iv)
theorem z2o {prog:Program} {w:World} {A:Around} {E:Value→Shared→Prop} {s:Shared} {env:Env} {value slice:Expr} {pos:Pos} {T id:String} {Q:Value→Shared→Prop}
  (hl:typeLookup (.type T) "__getitem__"=pure (some (.builtin id))) (hs:NoSl slice)
  (h:wpAny (model prog w) A (eval value env) (fun o s₁=>wpAny (model prog w) A (eval slice env) (fun i s₂=>s₂.TypeIs o T∧wpAny (model prog w) A (getItem o i) Q E s₂) E s₁) E s):
  wpAny (model prog w) A (eval (.Subscript value slice pos) env) Q E s:=by
 refine Subscript_ (wpAny_mono h (fun o s₁ h₁=>wpAny_mono h₁ (fun i s₂ h₂=>?_) fun _ _ x=>x) fun _ _ x=>x)
 obtain ⟨hT,h₂⟩:=h₂
 unfold subscriptTail
 refine wpAny_bind ?_
 rw [getitemInPython_of_ne hT.not_modules]
 refine wpAny_bind (wpAny_specialOf hT hl ?_)
 have fin:wpAny (model prog w) A (subscripted slice false o i) (fun r s₃=>wpAny (model prog w) A (letTemporaryGo value o r >>= fun _=>pure r) Q E s₃) E s₂:=by
  rw [hs o i]
  exact wpAny_operating (wpAny_mono h₂ (fun r s₃ h₃=>wpAny_bind (wpAny_letTemporaryGo (wpAny_pure h₃))) fun _ _ x=>x)
 first
  | exact wpAny_pure (wpAny_bind fin)
  | exact wpAny_bind (wpAny_pure (wpAny_bind fin))
  | exact wpAny_bind fin
theorem z0B {X:Cx} {pins:List (Addr × Obj)} {σ:St} {H:Hp} {s:Shared} {a:Addr} {y:V} {o:Option V} (I:Inv X pins σ H s) (g:DGet H a y o):s.TypeIs (.ref a) "dict":=by
 rcases g with ⟨kvs,k,e,_,_⟩ | ⟨kvs,k,b,e,_,_,_⟩
 ·obtain ⟨_,_,vs,_,dd⟩:=z0z I.hok e
  exact dd.typeIs
 ·obtain ⟨_,_,xs,_,dd⟩:=z0y I.hok e
  exact dd.typeIs
def z7K (td ty:TE):TE:=fun σ H Q=>td σ H fun x H1=>ty σ H1 fun y H2=>∃a v,x=.ref a∧DGet H2 a y (some v)∧Q v H2
def tDIn (ty td:TE):TE:=fun σ H Q=>ty σ H fun y H1=>td σ H1 fun x H2=>∃a o,x=.ref a∧DGet H2 a y o∧Q (.bl o.isSome) H2
def z5A (ty td:TE):TE:=fun σ H Q=>ty σ H fun y H1=>td σ H1 fun x H2=>∃a o,x=.ref a∧DGet H2 a y o∧Q (.bl (!o.isSome)) H2
def z7P (td ty tv:TE):TS:=fun D σ H=>tv σ H fun v H1=>td σ H1 fun x H2=>ty σ H2 fun y H3=>∃a H4,x=.ref a∧DPut H3 a y v H4∧D.nx σ H4
section
variable {X:Cx} {o i e value:Expr} {pos pos' tpos:Pos} {td ty tv:TE}
theorem QW (hu:X.A.units+1 < cLine) (ho:PE X o td) (hi:PE X i ty) (hs:NoSl i):PE X (.Subscript o i pos) (z7K td ty):=by
 intro pins s σ H Q I h
 refine z2o PySem.F.slot_dict_getitem.lookup hs (thn (ho pins s σ H _ I h) fun u s1 ⟨x,H1,I1,rx,q1⟩=>thn (hi pins s1 σ H1 _ I1 q1) fun iv s2 zz=>?_)
 obtain ⟨y,H2,I2,ry,a,v,ex,g,q2⟩:=zz
 subst ex
 obtain rfl:u=Value.ref a:=rx
 exact ⟨z0B I2 g,z3C hu I2 g ry fun w' s3 I3 rw'=>⟨v,H2,I3,rw',q2⟩⟩
theorem z5f (hu:X.A.units+1 < cLine) (hi:PE X i ty) (ho:PE X o td):PC X .In i o (tDIn ty td):=by
 intro pins s σ H Q I h
 refine thn (hi pins s σ H _ I h) fun iv s1 ⟨y,H1,I1,ry,q1⟩=>thn (ho pins s1 σ H1 _ I1 q1) fun u s2 zz=>?_
 obtain ⟨x,H2,I2,rx,a,ov,ex,g,q2⟩:=zz
 subst ex
 obtain rfl:u=Value.ref a:=rx
 exact d_in hu I2 g ry fun s3 I3=>⟨.bl ov.isSome,H2,I3,rfl,q2⟩
theorem JD (hu:X.A.units+1 < cLine) (hi:PE X i ty) (ho:PE X o td):PC X .NotIn i o (z5A ty td):=by
 intro pins s σ H Q I h
 refine thn (hi pins s σ H _ I h) fun iv s1 ⟨y,H1,I1,ry,q1⟩=>thn (ho pins s1 σ H1 _ I1 q1) fun u s2 zz=>?_
 obtain ⟨x,H2,I2,rx,a,ov,ex,g,q2⟩:=zz
 subst ex
 obtain rfl:u=Value.ref a:=rx
 exact z6l hu I2 g ry fun s3 I3=>⟨.bl (!ov.isSome),H2,I3,rfl,q2⟩
theorem z2G (hu:X.A.units+1 < cLine) (ho:PE X o td) (hi:PE X i ty) (hv:PE X value tv) (hs:swapsWith value (some (.Subscript o i pos')) pos.line X.env=pure false):
  PS X (.Assign [.Subscript o i pos'] value pos) (z7P td ty tv):=by
 intro pins s σ H D I h
 refine wpAny_Assign_Subscript (thn (hv pins s σ H _ I h) fun r s1 ⟨v,H1,I1,rv,q1⟩=>thn (ho pins s1 σ H1 _ I1 q1) fun u s2 ⟨x,H2,I2,rx,q2⟩=>thn (hi pins s2 σ H2 _ I2 q2) fun iv s3 ⟨y,H3,I3,ry,a,H4,ex,g,q3⟩=>?_) hs
 subst ex
 obtain rfl:u=Value.ref a:=rx
 exact z3B hu I3 g ry rv fun s4 I4=>⟨σ,H4,I4,q3⟩
end
theorem Jd {P:Program} {w:World} {H:Hp} (h:Heap) (hb:sysModules < h.objs.size):qi P w H (h.push { cls:=.type "dict",data:=.dict #[] }) h.objs.size (.dK []):=
 ⟨Nat.zero_le _,beq_eq_false_iff_ne.mpr (Ne.symm (Nat.ne_of_lt hb)),[],.nil,Heap.DictOf.new h⟩
def z6E:TE:=fun _ H Q=>∀p,H p=none→Q (.ref p) (upd H p (.dK []))
section
variable {X:Cx} {pos:Pos}
theorem z0W:PE X (.Dict [] [] pos) z6E:=fun pins s σ H Q I h=>
 wpAny_Dict_empty ⟨.ref s.heap.objs.size,_,I.laid (a:=s.heap.objs.size) (o:=.dK []) (t':=s.toks) (fun _ _ q=>Heap.get?_push_of_some _ q) (kc _) (Jd s.heap I.big),rfl,h _ (I.hok.fresh (kc _))⟩
end
def z2l:List (TE × TE)→St→Hp→(List (V × V)→Hp→Prop)→Prop
 | [],_,H,Q=>Q [] H
 | (tk,tv) :: r,σ,H,Q=>tk σ H fun x H1=>tv σ H1 fun y H2=>z2l r σ H2 fun ps H3=>Q ((x,y) :: ps) H3
abbrev VV:List (V × V)→List (Value × Value)→Prop:=Paired fun p q=>RelV p.1 q.1∧RelV p.2 q.2
def PPs (X:Cx) (pos:Pos) (keys:List (Option Expr)) (values:List Expr) (trs:List (TE × TE)):Prop:=
 ∀(pins:List (Addr × Obj)) (s:Shared) (σ:St) (H:Hp) (Q:List (V × V)→Hp→Prop),Inv X pins σ H s→z2l trs σ H Q→
  wpAny (model X.prog X.w) X.A (evalPairs (pairTrees keys values X.env pos)) (fun vs s'=>∃ps H',Inv X pins σ H' s'∧VV ps vs∧Q ps H') X.xe s
theorem z2I {X:Cx} {pos:Pos}:PPs X pos [] [] []:=fun pins s σ H Q I h=>pairTrees_nil_walk ⟨[],H,I,.nil,h⟩
theorem Zf {X:Cx} {pos:Pos} {k v:Expr} {ks:List (Option Expr)} {vs:List Expr} {tk tv:TE} {trs:List (TE × TE)} (hk:PE X k tk) (hv:PE X v tv) (hr:PPs X pos ks vs trs):
  PPs X pos (some k :: ks) (v :: vs) ((tk,tv) :: trs):=fun pins s σ H Q I h=>
 pairTrees_cons_walk (thn (hk pins s σ H _ I h) fun u s1 ⟨x,H1,I1,rx,q1⟩=>thn (hv pins s1 σ H1 _ I1 q1) fun w2 s2 ⟨y,H2,I2,ry,q2⟩=>
  thn (hr pins s2 σ H2 _ I2 q2) fun ws s3 ⟨ps,H3,I3,rel,q3⟩=>⟨(x,y) :: ps,H3,I3,.cons ⟨rx,ry⟩ rel,q3⟩)
noncomputable def ZI (kvs more:List (Key × V)):List (Key × V):=more.foldl (fun acc kv=>putK acc kv.1 kv.2) kvs
theorem KV.merge:∀{more:List (Key × V)} {rs:List (Key × Value)} {kvs:List (Key × V)} {vs:List (Key × Value)},KV more rs→KV kvs vs→KV (ZI kvs more) (merged vs rs):=by
 intro more rs kvs vs r
 unfold KV at r
 induction r generalizing kvs vs with
 | nil=>intro q;exact q
 | @cons p q ps qs h t ih=>
  intro r0
  have e:KV (putK kvs p.1 p.2) (stored vs q.1 q.2):=by
   have:=r0.put p.1 h.2
   rw [←h.1];exact this
  exact ih e
theorem Zm:∀(more kvs:List (Key × V)),(ZI kvs more).length≤kvs.length+more.length
 | [],kvs=>by show kvs.length≤kvs.length+0;lia
 | p :: r,kvs=>by
  have h1:=Zm r (putK kvs p.1 p.2)
  have h2:=qp kvs p.1 p.2
  show (ZI (putK kvs p.1 p.2) r).length≤_
  rw [kL];lia
theorem QL {P:Program} {w:World}:∀{kvs:List (Key × V)} {ws:List (Value × Value)},VV (kvs.map fun kv=>(kV kv.1,kv.2)) ws→∃rs,Carries (zI P w) ws rs∧KV kvs rs
 | [],_,r=>by rw [List.map_nil] at r;cases r;exact ⟨[],True.intro,.nil⟩
 | p :: kvs,_,r=>by
  rw [kP] at r
  cases r with
  | @cons a b as bs h t=>
   obtain ⟨rs,c,q⟩:=QL (P:=P) (w:=w) t
   obtain ⟨b1,b2⟩:=b
   exact ⟨(p.1,b2) :: rs,⟨J7 h.1,rfl,c⟩,.cons ⟨rfl,h.2⟩ q⟩
def z7J (trs:List (TE × TE)):TE:=fun σ H Q=>∀p,H p=none→z2l trs σ (upd H p (.dK [])) fun ps H2=>H2 p=some (.dK [])∧∃kvs:List (Key × V),ps=kvs.map (fun kv=>(kV kv.1,kv.2))∧kvs.length≤15∧Q (.ref p) (upd H2 p (.dK (ZI [] kvs)))
theorem z2R {X:Cx} {pos:Pos} {keys:List (Option Expr)} {values:List Expr} {trs:List (TE × TE)} (h:PPs X pos keys values trs) (hall:keys.all (·.isSome)=true) (hl:keys.length=values.length) (h0:keys≠[])
  (h15:keys.length≤15):PE X (.Dict keys values pos) (z7J trs):=by
 intro pins s σ H Q I q
 have hn:=I.hok.fresh (kc s.heap.objs.size)
 have I1:=I.laid (a:=s.heap.objs.size) (o:=.dK []) (h':=s.heap.push { cls:=.type "dict",data:=.dict #[] }) (t':=s.toks) (fun _ _ q=>Heap.get?_push_of_some _ q) (kc _) (Jd s.heap I.big)
 refine wpAny_Dict_walk (knd:=zI X.prog X.w) hall hl h0 h15 (thn (h pins _ σ _ _ I1 (q _ hn)) fun ws s2 zz=>?_)
 obtain ⟨ps,H2,I2,rel,e,kvs,ep,lk,q2⟩:=zz
 subst ep
 obtain ⟨rs,c,rk⟩:=QL (P:=X.prog) (w:=X.w) rel
 obtain ⟨z,hd,vs0,r0,dd⟩:=z21 I2.hok e
 cases r0
 refine ⟨rs,c,dd,fun h' dd' hs=>⟨.ref s.heap.objs.size,_,?_,rfl,q2⟩⟩
 have hz:(ZI [] kvs).length≤sizeLine:=by
  have h1:=Zm kvs []
  rw [List.length_nil] at h1
  rw [sizeLine_eq];lia
 have he:∃q,h'.get? s.heap.objs.size=some q:=let ⟨q,_,_,hq,_⟩:=dd';⟨q,hq⟩
 exact Je I2 (by rw [e];exact True.intro) hs he (z1j hz hd (rk.merge .nil) dd')
structure M1 (X:Cx) (o:Expr) (m:Str) (apos:Pos) (e:Expr) (cpos:Pos):Prop where
 base:attributeBase o m X.env (eval o X.env)=eval o X.env
 few:((backTo cpos (starEach [e] X.env)).all (fun x=> !x.1)&&(backToKw cpos (keywordEach [] X.env)).all (fun x=>x.1.isSome)
  &&decide (([e]:List Expr).length+([]:List Keyword).length+(if ([]:List Keyword).isEmpty then 0 else 1) < 30))=true
 line:(apos.endLine == cpos.line)=true
 trees:backTo cpos (starEach [e] X.env)=[(false,eval e X.env)]
structure M2 (X:Cx) (o:Expr) (m:Str) (apos:Pos) (e f:Expr) (cpos:Pos):Prop where
 base:attributeBase o m X.env (eval o X.env)=eval o X.env
 few:((backTo cpos (starEach [e,f] X.env)).all (fun x=> !x.1)&&(backToKw cpos (keywordEach [] X.env)).all (fun x=>x.1.isSome)
  &&decide (([e,f]:List Expr).length+([]:List Keyword).length+(if ([]:List Keyword).isEmpty then 0 else 1) < 30))=true
 line:(apos.endLine == cpos.line)=true
 trees:backTo cpos (starEach [e,f] X.env)=[(false,eval e X.env),(false,eval f X.env)]
def IsD (H:Hp) (a:Addr):Prop:=(∃kvs,Rd H a (.dK kvs))∨∃kvs,Rd H a (.dT kvs)
theorem z5k {X:Cx} {pins:List (Addr × Obj)} {σ:St} {H:Hp} {s:Shared} {a:Addr} (I:Inv X pins σ H s) (d:IsD H a):
  s.TypeIs (.ref a) "dict"∧(∀b,Value.ref a=.ref b→∃ob,s.heap.get? b=some ob∧ob.dict=none)∧(a == sysModules)=false:=by
 rcases d with ⟨kvs,e⟩ | ⟨kvs,e⟩
 ·obtain ⟨_,hd,vs,_,dd⟩:=z0z I.hok e
  refine ⟨dd.typeIs,fun b q=>?_,hd⟩
  cases q
  obtain ⟨ob,_,_,h1,h2,_⟩:=dd
  exact ⟨ob,h1,h2.2.1⟩
 ·obtain ⟨_,hd,xs,_,dd⟩:=z0y I.hok e
  refine ⟨dd.typeIs,fun b q=>?_,hd⟩
  cases q
  obtain ⟨ob,_,_,h1,h2,_⟩:=dd
  exact ⟨ob,h1,h2.2.1⟩
section
variable {X:Cx} {pins:List (Addr × Obj)} {σ:St} {H:Hp} {s:Shared} {a:Addr} {y d:V} {u r:Value} {o:Option V} {A:Around} {E:Value→Shared→Prop}
theorem z7p {Q:Value→Shared→Prop} (hu:A.units+1 < cLine) (I:Inv X pins σ H s) (g:DGet H a y o) (ry:RelV y u) (h:∀w' s',Inv X pins σ H s'→RelV (o.getD .non) w'→Q w' s'):
  wpAny (model X.prog X.w) A (call (.builtin "dict.get") [.ref a,u]) Q E s:=by
 rcases g with ⟨kvs,k,e,ey,l⟩ | ⟨kvs,k,b,e,ey,eb,l⟩
 ·subst ey
  obtain ⟨z,hd,vs,rel,dd⟩:=z0z I.hok e
  refine call_meetsIn PySem.F.slot_dict_get dd.typeIs PySem.F.entry_dict_get (PySem.F.args_dict_get_2 _ _) (meets_dict_get (zI X.prog X.w) a (J7 ry) hd) ⟨_,dd.mapOf,h _ _ (I.tok _) ?_⟩
  rw [l]
  exact (rel.val k).getD rfl
 ·subst ey
  cases (show u=Value.ref b from ry)
  obtain ⟨z,hd,xs,rel,dd⟩:=z0y I.hok e
  refine call_meetsIn PySem.F.slot_dict_get dd.typeIs PySem.F.entry_dict_get (PySem.F.args_dict_get_2 _ _) (meetsH_dict_get (tupleKind (zI X.prog X.w)) a b hd) ⟨tupleKind_room_in1 hu,k,xs,QE I.hok eb,dd,h _ _ (I.tok _) ?_⟩
  rw [l]
  exact (rel.val k).getD rfl
end
def z6F (td ty:TE):TE:=fun σ H Q=>td σ H fun x H1=>∃a,x=.ref a∧IsD H1 a∧ty σ H1 fun y H2=>∃o,DGet H2 a y o∧Q (o.getD .non) H2
section
variable {X:Cx} {o e f:Expr} {apos cpos:Pos} {td ty tx:TE}
theorem z4e (hu:X.A.units+1 < cLine) (ho:PE X o td) (he:PE X e ty) (m:M1 X o "get" apos e cpos):PE X (.Call (.Attribute o "get" apos) [e] [] cpos) (z6F td ty):=by
 intro pins s σ H Q I h
 refine wpAny_Call_method m.base m.few m.line PySem.F.plainAttrs_dict PySem.F.slot_dict_get PySem.F.type_dict_get (thn (ho pins s σ H _ I h) fun u s1 zz=>?_)
 obtain ⟨x,H1,I1,rx,a,ex,d,q1⟩:=zz
 subst ex
 obtain rfl:u=Value.ref a:=rx
 obtain ⟨t1,t2,_⟩:=z5k I1 d
 refine ⟨t1,t2,?_⟩
 rw [m.trees]
 refine Calls.callWith_builtin rfl (Calls.evalArgs_plain (Calls.spliced_cons (thn (he pins s1 σ H1 _ I1 q1) fun iv s2 ⟨y,H2,I2,ry,ov,g,q2⟩=>Calls.spliced_nil ?_)))
 exact z7p hu I2 g ry fun w' s3 I3 rw'=>⟨_,H2,I3,rw',q2⟩
end
section
variable {X:Cx} {pins:List (Addr × Obj)} {σ:St} {H:Hp} {s:Shared} {a:Addr} {kvs:List (Key × V)} {A:Around} {E:Value→Shared→Prop}
end
section
variable {X:Cx} {pins:List (Addr × Obj)} {σ:St} {H:Hp} {s:Shared} {a:Addr} {y:V} {u:Value} {A:Around} {E:Value→Shared→Prop}
end
end L2
namespace Att
open PySem PySem.W PySem.Calls PyProof.Rows
theorem Ql {P:Params} {h:Heap}:∀(ns:List Int) (vs:List Value),WellAll P h vs (ns.map WData.int)→IntsAre vs ns:=by
 intro ns
 induction ns with
 | nil=>
  intro vs w
  rw [List.map_nil] at w
  cases w
  exact .nil
 | cons n ns ih=>
  intro vs w
  rw [kP] at w
  cases w with
  | cons a b=>
   cases a
   exact .cons _ _ (ih _ b)
theorem z2B {l:OpenLaw} {n:Nat} (hn:l.most=some n) {P:Params} {h:Heap} {args:List WData} {vals:List Value}
  (hpre:l.row.toRowW.claim.pre args=true) (hwl:WellAll P h vals args):
  ∃a vs ns,vals=[Value.ref a]∧args=[WData.list (ns.map WData.int)]∧h.get? a=some { cls:=.type "list",data:=.seq vs.toArray }∧IntsAre vs ns∧ns.length≤n:=by
 have hsh:WShape.hasAll [] args [.list .int]=true:=(pre_splitW hpre).1
 have hc:l.pre.holds [] { args:=args }=true:=(pre_splitW hpre).2
 obtain ⟨d,r,rfl,h1,h2⟩:=hasAllW_cons hsh
 obtain rfl:=hasAllW_nil h2
 obtain ⟨xs,rfl,h3⟩:=hasW_list h1
 obtain ⟨ns,rfl⟩:=items_int h3
 have hlen:ns.length≤n:=by
  unfold OpenLaw.pre at hc
  have h4:(WTm.not (.lt (.lit (.int (n:Int))) (.len (.arg 0)))).holds [] { args:=[.list (ns.map .int)] }=true:=by
   have h4:=(holds_andW hc).1
   rw [hn] at h4
   exact h4
  have h5:=condW_of h4 (w_not (w_lt w_lit (w_len_list (w_arg rfl))))
  rw [kh] at h5
  refine Nat.le_of_not_lt fun q=>?_
  have q':(n:Int) < ((ns.length:Nat):Int):=by lia
  first
   | (rw [kg q'] at h5;exact absurd h5 (by decide))
   | (simp at h5;lia)
 cases hwl with
 | cons w1 w2=>
  cases w2
  cases w1 with
  | list ho hall=>exact ⟨_,_,ns,rfl,rfl,ho,Ql ns _ hall,hlen⟩
theorem z2J (l:OpenLaw) (args:List WData):l.row.toRowW.claim.post args (.bool true) args=true:=
 postW_of (r:=l.row.toRowW) (X:=(true == true))
  (show WShape.has [] (.bool true) .bool=true by first | rfl | decide | simp [WShape.has,WShape.arms,WShape.armsAll])
  (show (WTm.eq .res (.lit (.bool true))).value [] { args:=args,res:=some (.bool true),after:=args }=some (.bool (true == true)) from w_eq_bool (w_res rfl) w_lit) rfl
theorem attach_call {l:OpenLaw} {n:Nat} {q:Program} {loose:List Str} {XP:(Str→Option Value)→Heap→Prop} {YP:World→Heap→Prop} {d:DefRec}
  (hn:l.most=some n) (hdf:d.params.defaults=[])
  (call:∀(w:World) (s₀ s₁:Shared) (mg mb:Str→Option Value) (fa:Addr) (o:Obj) (pm cd doc:Value) (a:Addr) (vs:List Value) (ns:List Int),
   Ground q loose [] XP w s₀ mg mb s₁.heap→YP w s₁.heap→
   s₁.heap.get? fa=some o→o.data=.func (docDef d.name d.params d.body d.scope pm cd doc)→s₁.heap.CodeRec cd d.name→mg d.name=some (.ref fa)→
   s₁.heap.get? a=some { cls:=.type "list",data:=.seq vs.toArray }→IntsAre vs ns→ns.length≤n→s₁.gens=#[]→
   codeAny (model l.prog w) callerA (.call (.ref fa) ⟨[.ref a],[]⟩) (fun r s'=>r=.ok (.ret (.bool true))∧OldK s₁.heap s'.heap∧s'.os=s₁.os∧AllBare s'.gens) s₁):
  WalkO q loose XP YP l.row.toRowW d [] (fun f vs=>PySem.call f vs):=by
 intro w s₀ s₁ mg mb G Y fa o pm cd doc dV kV ho hd hcd hD hmg hg args vals as hpre hlay hrd hwl hlo
 obtain rfl:dV=.none:=Dflts.none hD hdf
 obtain rfl:kV=.none:=Dflts.noKw hD
 obtain ⟨a,vs,ns,rfl,rfl,hobj,hints,hlen⟩:=z2B hn hpre hwl
 refine enter_call (codeAny_mono (call w s₀ s₁ mg mb fa o pm cd doc a vs ns G Y ho (fd_plain hd) hcd hmg hobj hints hlen hg) fun r s' hq=>?_)
 obtain ⟨rfl,h2,h3,h4⟩:=hq
 exact ⟨.inl ⟨.bool true,.bool true,[],rfl,fun _=>rfl,.bool true,z2J l _,fun _=>⟨List.Pairwise.nil,fun _ hm=>(nomatch hm)⟩⟩,h2,h3,h4⟩
section
variable {prog:Program} {w:World} {A:Around} {E:Value→Shared→Prop} {s:Shared} {K:Frag}
end
end Att
namespace L2
open PySem PySem.Spec PyProof.Rows
theorem Jm:∀{vs:List Value} {ns:List Int},IntsAre vs ns→Vals (ns.map V.int) vs
 | _,_,.nil=>.nil
 | _,_,.cons n t h=>.cons ⟨t,rfl⟩ (Jm h)
def Only (H:Hp):Prop:=∀b,H b=none∨∃o xs,H b=some (.frz o (.lst xs))
theorem z4r {P:Program} {w:World} {K:ko} {mg mb:Str→Option Value} {CX:CXT} {k:Nat} {fa a:Addr} {fd:FuncData} {x:Str} {sp:Sp} {s₁:Shared} {vs:List Value} {ns:List Int}
  (KX:K.In s₁.heap) (hns:s₁.heap.Ns mainGlobals mg) (hb:s₁.heap.Ns builtinsNs mb) (hbb:∀x:Str,x≠"__name__"→mb x=bootBuiltins x) (hlim:s₁.heap.NoLimit) (hg:s₁.gens=#[])
  (ha:s₁.heap.get? a=some { cls:=.type "list",data:=.seq vs.toArray }) (hi:IntsAre vs ns) (hl:ns.length≤sizeLine) (hr:Room k callerA)
  (F:∀base:Heap,K.In base→base.Ns mainGlobals mg→FnOk P w K mg base CX k fa fd [x] sp) (hbind:∀(s:Shared) (u:Value),BindsTo s fd ⟨[u],[]⟩ [(x,u)])
  (hsp:∀H:Hp,Only H→SqL K H a (ns.map V.int)→sp [.ref a] H (fun v _=>v=.bl true) fun _ _ _=>False)
  (hCX:∀H e s',CX [] H s₁ (fun _ _ _=>False) e s'→False):
  codeAny (model P w) callerA (.call (.ref fa) ⟨[.ref a],[]⟩) (fun r s'=>r=.ok (.ret (.bool true))∧OldK s₁.heap s'.heap∧s'.os=s₁.os∧AllBare s'.gens) s₁:=by
 have rv:=Jm hi
 have lenV:=hi.length
 have core:∀H:Hp,Only H→SqL K H a (ns.map V.int)→HOk P w H s₁.heap→(∀b,H b≠none→b=a)→(H a≠none→K.lookup a=none)→
   codeAny (model P w) callerA (.call (.ref fa) ⟨[.ref a],[]⟩) (fun r s'=>r=.ok (.ret (.bool true))∧OldK s₁.heap s'.heap∧s'.os=s₁.os∧AllBare s'.gens) s₁:=by
  intro H hO hS hok hA hK
  have base_of:∀{b:Addr} {o:Obj},s₁.heap.get? b=some o→H b=none→(hidT s₁.heap H).get? b=some o:=fun e n=>z4w e n
  have noA:∀{b:Addr} {o:Obj} {es:Array DictEntry} {ep:Nat},s₁.heap.get? b=some o→o.data=.dict es ep→H b=none:=fun {b o es ep} e d=>by
   cases q:H b with
   | none=>rfl
   | some u=>
    have e':b=a:=hA b (by rw [q];simp)
    subst e'
    rw [ha] at e;cases e
    have d':Data.seq vs.toArray _=Data.dict es ep:=d
    cases d'
  have nsK:∀{b:Addr} {m:Str→Option Value},s₁.heap.Ns b m→(hidT s₁.heap H).Ns b m:=fun {b m} ⟨o,es,ep,e,d,r⟩=>⟨o,es,ep,base_of e (noA e d),d,r⟩
  have hKb:K.In (hidT s₁.heap H):=fun b o e=>base_of (KX b o e) (by
   cases q:H b with
   | none=>rfl
   | some u=>
    have e':b=a:=hA b (by rw [q];simp)
    subst e'
    rw [hK (by rw [q];simp)] at e;cases e)
  have hM:Mod K mg (hidT s₁.heap H):=⟨hKb,nsK hns,⟨mb,nsK hb,hbb⟩,let ⟨mc,h1,h2⟩:=hlim;⟨mc,nsK h1,h2⟩⟩
  have e0:Env0 P w K mg (hidT s₁.heap H) callerA [] s₁ H:=⟨rfl,hM,fun b o e=>z5R e,kS (z3g _ _),trivial,fun b hb=>absurd (show b∈([]:List Addr) from hb) (by simp),hok,.of_eq hg⟩
  refine codeAny_mono ((F _ hKb (nsK hns)).run callerA [] s₁ H ⟨[.ref a],[]⟩ [.ref a] [.ref a] _ _ hr e0 (hbind s₁ (.ref a)) (.cons rfl .nil) (hsp H hO hS)) fun r s' h=>?_
  cases r with
  | error e=>exact (hCX H e s' h).elim
  | ok fl=>
   cases fl with
   | next=>exact False.elim h
   | brk=>exact False.elim h
   | cont=>exact False.elim h
   | ret u=>
    obtain ⟨v,H',os,bare,un,hok',r',q⟩:=h
    have q':v=.bl true:=q
    subst q'
    obtain rfl:u=Value.bool true:=r'
    refine ⟨rfl,OldK.of_keep fun b o e=>?_,os,bare⟩
    cases q:H b with
    | none=>exact un.keep b o e q (by intro z;exact absurd (show b∈([]:List Addr) from z) (by simp)) (by simp)
    | some u=>
     rcases hO b with z | ⟨ob,xs,z⟩
     ·rw [q] at z;cases z
     ·have z2:=un.frzs b ob _ z
      obtain ⟨e1,_⟩:=hok b _ z
      obtain ⟨e2,_⟩:=hok' b _ z2
      rw [e] at e1;cases e1
      exact e2
 cases hk:K.lookup a with
 | some o=>
  have e:=KX a o hk
  rw [ha] at e
  cases e
  refine core (fun _=>none) (fun _=>.inl rfl) (.inr ⟨_,vs.toArray,_,hk,rfl,rfl,rfl,by rw [kz,lenV];exact hl,by simpa using rv⟩) (fun b u z=>by have z':(none:Option HO)=some u:=z;cases z') (fun b z=>absurd rfl z) fun z=>absurd rfl z
 | none=>
  refine core (fun b=>if b=a then some (.frz { cls:=.type "list",data:=.seq vs.toArray } (.lst (ns.map V.int))) else none) (fun b=>?_) (.inl (.inr ⟨{ cls:=.type "list",data:=.seq vs.toArray },kr rfl⟩)) (fun b u z=>?_) (fun b z=>?_) fun _=>hk
  ·by_cases hb:b=a
   ·exact .inr ⟨_,_,kr hb⟩
   ·exact .inl (kq hb)
  ·by_cases hb:b=a
   ·have z':=(kr hb).symm.trans z
    cases z'
    subst hb
    exact ⟨ha,by rw [kh];exact hl,vs,_,rv,ha⟩
   ·have z':=(kq hb).symm.trans z
    cases z'
  ·by_cases hb:b=a
   ·exact hb
   ·exact absurd (kq hb) z
end L2
namespace L2
open PySem PySem.Spec PyProof.Rows
theorem z5t {l:PySem.W.OpenLaw} {n k:Nat} {q:Program} {loose:List Str} {XP:(Str→Option Value)→Heap→Prop} {YP:World→Heap→Prop} {d:DefRec} {K:Params→ko} {CX:World→CXT} {sp:World→Sp} {x:Str}
  (hn:l.most=some n) (hn2:n≤sizeLine) (hdf:d.params.defaults=[]) (hr:Room k callerA)
  (hY:∀(w:World) (h:Heap),YP w h→(K w.params).In h)
  (F:∀(w:World) (mg:Str→Option Value) (fa:Addr) (h:Heap),(K w.params).In h→h.Ns mainGlobals mg→mg d.name=some (.ref fa)→
   ∃fd:FuncData,(∀(s:Shared) (u:Value),BindsTo s fd ⟨[u],[]⟩ [(x,u)])∧
    ∀base:Heap,(K w.params).In base→base.Ns mainGlobals mg→FnOk l.prog w (K w.params) mg base (CX w) k fa fd [x] (sp w))
  (hsp:∀(w:World) (H:Hp) (a:Addr) (ns:List Int),ns.length≤n→Only H→SqL (K w.params) H a (ns.map V.int)→sp w [.ref a] H (fun v _=>v=.bl true) fun _ _ _=>False)
  (hCX:∀(w:World) (H:Hp) (s:Shared) (e:Value) (s':Shared),CX w [] H s (fun _ _ _=>False) e s'→False):
  PySem.W.WalkO q loose XP YP l.row.toRowW d [] (fun f vs=>PySem.call f vs):=by
 refine Att.attach_call hn hdf fun w s₀ s₁ mg mb fa o pm cd doc a vs ns G Y ho hd hcd hmg hobj hints hlen hg=>?_
 have KX:=hY w _ Y
 obtain ⟨fd,hb,hF⟩:=F w mg fa _ KX G.T.g hmg
 exact z4r KX G.T.g G.T.b G.T.builtins G.T.nolimit hg hobj hints (kn hlen hn2) hr hF hb (fun H hO hS=>hsp w H a ns hlen hO hS) fun H e s'=>hCX w H s₁ e s'
end L2
namespace L2
open PySem PySem.Spec PyProof.Rows
noncomputable def qB (s:Stmt):Arguments:=match s with
 | .FunctionDef _ a _ _ _ _ _ _ _ _=>a
 | _=>{ posonlyargs:=[],args:=[],vararg:=none,kwonlyargs:=[],kw_defaults:=[],kwarg:=none,defaults:=[] }
noncomputable def zW (s:Stmt):List Stmt:=match s with
 | .FunctionDef _ _ b _ _ _ _ _ _ _=>b
 | _=>[]
noncomputable def ze (s:Stmt):Scope:=match s with
 | .FunctionDef _ _ _ _ _ _ sc _ _ _=>sc
 | _=>{ kind:=.function,names:=[],isGenerator:=false,isCoroutine:=false }
abbrev CX0:CXT:=fun _ _ _ _ _ _=>False
abbrev E0:XK:=fun _ _ _=>False
theorem z5N {X:Cx}:z3T CX0 X E0:=fun _ _ _ _ _ _ _ h=>h.elim
structure Fun (K:ko) (x qual:Str) (st:Stmt) (f:Addr) (fd:FuncData):Prop where
 ex:∃(oc:Value) (od:Option Addr) (kV doc pm:Value) (an:Option Addr) (cdv ct:Value) (osl:Array (Option Value)),
  fd=PySem.W.fnOf x qual (qB st) (zW st) (ze st) .none kV doc pm an cdv ct∧K.lookup f=some ⟨oc,od,.func fd,osl⟩∧PySem.W.codeIn K cdv qual=true
 kp:PySem.W.keepIn K (.ref f)=true
section
variable {P:Program} {w:World} {K:ko} {mg:Str→Option Value} {base:Heap}
theorem Fun.ok {x qual:Str} {st:Stmt} {f:Addr} {fd:FuncData} {N ps:List Str} {k:Nat} {sp:Sp} (F:Fun K x qual st f fd) (S:zn N ps (ze st)) (len:∀vs H Q E,sp vs H Q E→vs.length=ps.length)
  (hbody:∀(cdv:Value) (A:Around) (outer:List Env) (s:Shared) (H:Hp) (vs:List V) (Q:VK) (E:XK),Room k (A.deeper (envOfC qual (ze st) s.heap.objs.size f cdv))→sp vs H Q E→
   ∃t,PSs (cxOf CX0 P w K mg base N qual (ze st) f cdv A outer s H E).nox (zW st) t∧t { nx:=fun _ H'=>Q .non H',rt:=Q } (Z0 N vs) H):FnOk P w K mg base CX0 (k+1) f fd ps sp:=by
 obtain ⟨oc,od,kV,doc,pm,an,cdv,ct,osl,rfl,lk,hcd⟩:=F.ex
 refine z7k lk hcd S len fun A outer s H vs Q E hr hsp=>?_
 obtain ⟨t,h,q⟩:=hbody cdv A outer s H vs Q E hr hsp
 exact ⟨t,h.nox,q⟩
theorem Fun.binds {x qual:Str} {st:Stmt} {f:Addr} {fd:FuncData} {ps:List Str} (F:Fun K x qual st f fd)
  (h:∀(kV doc pm:Value) (an:Option Addr) (cdv ct:Value) (us:List Value),us.length=ps.length→bindArgs (PySem.W.fnOf x qual (qB st) (zW st) (ze st) .none kV doc pm an cdv ct) ⟨us,[]⟩=pure (ps.zip us)):Qu K fd ps []:=by
 obtain ⟨oc,od,kV,doc,pm,an,cdv,ct,osl,rfl,lk,hcd⟩:=F.ex
 exact .all (h kV doc pm an cdv ct)
theorem z5l {x qual:Str} {st:Stmt} {f:Addr} {oc:Value} {od an:Option Addr} {osl:Array (Option Value)} {kV doc pm cdv ct:Value} (l:K.lookup f=some ⟨oc,od,.func (PySem.W.fnOf x qual (qB st) (zW st) (ze st) .none kV doc pm an cdv ct),osl⟩)
  (c:PySem.W.codeIn K cdv qual=true) (k:PySem.W.keepIn K (.ref f)=true):Fun K x qual st f (PySem.W.fnOf x qual (qB st) (zW st) (ze st) .none kV doc pm an cdv ct):=⟨⟨oc,od,kV,doc,pm,an,cdv,ct,osl,rfl,l,c⟩,k⟩
end
theorem z4v {A:Around} {k:Nat} (hr:Room k A):A.units+1 < cLine:=Nat.lt_of_le_of_lt (Nat.add_le_add_left (by decide:1≤64) _) hr.units
theorem q0 {n:Nat} (h:n≤1000):n < sizeLine:=Nat.lt_of_le_of_lt h (by decide)
section
variable {X:Cx}
theorem pv (i:Nat) {x:Str} {pos:Pos} (hN:autoParam (X.N[i]?=some x) aR._auto_1) (hv:Vis X.env.scope x:=by first | exact Or.inl rfl | exact Or.inr (Or.inl rfl) | exact Or.inr (Or.inr rfl)) (hd:autoParam ((x == ("__debug__":Str))=false) aR._auto_2)
  (hcd:autoParam ((x == ("__classdict__":Str))=false) aR._auto_2):PE X (.Name x pos) (tVar i):=z6W hN hv hd hcd
end
theorem iteF {A B:Prop} (h:B):if false=true then A else B:=by
 rw [kq ka]
 exact h
theorem iteT {A B:Prop} (h:A):if true=true then A else B:=by
 rw [kr rfl]
 exact h
theorem ite2 {c A B:Prop} [Decidable c] (h1:c→A) (h2:¬c→B):if c then A else B:=by
 by_cases h:c
 ·rw [kr h]
  exact h1 h
 ·rw [kq h]
  exact h2 h
def Same (H H':Hp):Prop:=∀b o,H b=some o→H' b=some o
theorem Same.refl (H:Hp):Same H H:=fun _ _ h=>h
theorem Same.trans {H H1 H2:Hp} (a:Same H H1) (b:Same H1 H2):Same H H2:=fun c o h=>b c o (a c o h)
theorem Same.free {H H':Hp} (e:Same H H') {l:Addr} (h:H' l=Option.none):H l=Option.none:=by
 cases q:H l with
 | none=>rfl
 | some o=>
  rw [e l o q] at h
  cases h
theorem Same.seq {K:ko} {H H':Hp} {a:Addr} {xs:List V} (e:Same H H') (h:SqL K H a xs):SqL K H' a xs:=by
 rcases h with (h | ⟨o,h⟩) | h
 ·exact .inl (.inl (e _ _ h))
 ·exact .inl (.inr ⟨o,e _ _ h⟩)
 ·exact .inr h
section
variable {κ:Type} [DecidableEq κ]
end
end L2
set_option genInjectivity false
set_option maxRecDepth 100000
set_option maxHeartbeats 4000000
namespace L2
open PySem PySem.Spec PyProof.Rows
theorem JK {names:List (Str × NameKind)} {k:NameKind} (h:∀y∈names,y.2≠k) (x:Str):names.lookup x≠some k:=fun e=>h _ (PySem.mem_of_lookup e) rfl
theorem z1w {scope:Scope} {env:Env} (h:∀y∈scope.names,y.2≠.free):relabel scope env=scope:=by
 unfold relabel
 rw [map_eq_self (l:=scope.names) (fun x hx=>by
  obtain ⟨n,k⟩:=x
  have:(k == NameKind.free)=false:=by simpa using h _ hx
  simp [this])]
section
variable {X:Cx}
def QO (i:Nat) (te:TE):TS:=fun D σ H=>te σ H fun v H1=>D.nx (σ.set i (some v)) H1
end
end L2
namespace L2
open PySem PySem.Spec PyProof.Rows
theorem Inv.turned2 {X:Cx} {pins:List (Addr × Obj)} {σ:St} {H:Hp} {s:Shared} {h':Heap} {t':Nat} {e it:Addr} {xs:List V} (I:Inv X pins σ H s) (k:∀b o,b≠e→b≠it→s.heap.get? b=some o→h'.get? b=some o)
  (there:∀b∈[e,it],∃o,h'.get? b=some o) (fe:FpOk X pins H e) (fi:FpOk X pins H it) (new:qi X.prog X.w (upd H s.heap.objs.size (.tup xs)) h' s.heap.objs.size (.tup xs)):
  Inv X pins σ (upd H s.heap.objs.size (.tup xs)) { s with heap:=h',toks:=t' }:=by
 have hn:=I.fresh
 have nit:∀b u,H b=some u→b≠e∧b≠it:=fun b u q=>⟨(fun z=>by rw [z,fe.1] at q;cases q),(fun z=>by rw [z,fi.1] at q;cases q)⟩
 have hm:∀{b:Addr},b∉[e,it]→b≠e∧b≠it:=fun {b} hb=>⟨fun z=>hb (by simp [z]),fun z=>hb (by simp [z])⟩
 refine I.step (g':=s.gens) (d':=s.drawn) (ch:=[e,it]) (fun b hb=>?_) (fun b o _ _ hc q _=>k b o (hm hc).1 (hm hc).2 q) (fun b o _ _ hc q _=>⟨o.slots,k b o (hm hc).1 (hm hc).2 q⟩) (fun b o _ q n=>?_)
  (fun b o hc q=>⟨o,k b o (hm hc).1 (hm hc).2 q⟩) (fun b xs q=>by rw [zg (zc q hn)];exact q) (fun b o u q=>by rw [zg (zc q hn)];exact q) (fun b ps q=>⟨#[],by rw [zg (zc q hn),q];simp⟩) (fun m hm'=>?_) (fun b u q=>?_) I.bare
 ·rcases ky.mp hb with z | z
  ·subst z;exact ⟨fe.2.2.2.1,fe.2.1,fe.2.2.2.2.1,fe.2.2.2.2.2⟩
  ·have z:b=it:=by simpa using z
   subst z;exact ⟨fi.2.2.2.1,fi.2.1,fi.2.2.2.2.1,fi.2.2.2.2.2⟩
 ·rw [zg (Nat.ne_of_lt (Heap.lt_size q))];exact n
 ·obtain ⟨o,es,ep,ho,r⟩:=hm'
  exact ⟨o,es,ep,k _ o (Ne.symm fe.2.1) (Ne.symm fi.2.1) ho,r⟩
 ·by_cases hb:b=s.heap.objs.size
  ·subst hb;rw [zb] at q;cases q;exact new
  ·rw [zg hb] at q
   refine (I.hok b u q).stay (fun c v hc z=>?_) (fun c z=>by rw [zg (zc z hn)];exact z) fun c xs z=>by rw [zg (zc z hn)];exact z
   rcases hc with y | y
   ·subst y;exact k c v (nit c u q).1 (nit c u q).2 z
   ·exact k c v (nit c _ y).1 (nit c _ y).2 z
noncomputable def Ite (K:ko) (a:Addr):It:=
 ⟨fun i H=>∃xs x,SqL K H a xs∧xs[i]?=some x,fun i H x H'=>∃p y,x=.ref p∧H p=none∧H'=upd H p (.tup [.int i,y])∧∀xs,SqL K H a xs→xs[i]?=some y,fun i H=>∃xs,SqL K H a xs∧xs.length≤i⟩
theorem z2i {P:Program} {w:World} {K:ko} {elts:List Expr} {x1} {pos:Pos} (a e it:Addr) (hei:e≠it):Turn P w K (.Tuple elts x1 pos) (Ite K a) [e,it] e (fun i h=>(∃old,IsEnum h e it i old)∧h.IsListIter it a i) where
 mem:=by simp
 obj:=fun i h st b hb=>by
  rcases ky.mp hb with z | z
  ·subst z
   obtain ⟨old,q⟩:=st.1
   exact ⟨_,q,fun v y=>by cases y⟩
  ·have z:b=it:=by simpa using z
   subst z
   obtain ⟨o,q,c,d⟩:=st.2
   exact ⟨o,q,fun v z=>by rw [d] at z;cases z⟩
 keep:=fun i h h' st k=>⟨let ⟨old,q⟩:=st.1;⟨old,k e (by simp) _ q⟩,st.2.at fun o q=>k it (by simp) o q⟩
 item:=by
  intro X hP hw hK hc i pins s σ H E I hf st hg
  subst hP hw hK
  obtain ⟨xs,x,hq,hx⟩:=hg
  obtain ⟨its,rv,p,hz⟩:=I.list hq
  obtain ⟨u,hu,ru⟩:=rv.get hx
  obtain ⟨⟨old,he⟩,hit⟩:=st
  have fe:=hf e (by simp)
  have fi:=hf it (by simp)
  refine wpAny_pyNext_enum_item he hit p.isList (x:=u) (by simpa using hu) hei fun h' ho hit' hT hsz hk=>?_
  refine ⟨_,rfl,?_⟩
  have new:qi X.prog X.w (upd H s.heap.objs.size (.tup [.int i,x])) h' s.heap.objs.size (.tup [.int i,x]):=⟨by show 2≤sizeLine;decide,[.int i s.toks,u],.cons ⟨_,rfl⟩ (.cons ru .nil),_,hT,rfl,_,rfl⟩
  obtain ⟨oi,ei,_⟩:=id hit'
  have I1:Inv X pins σ (upd H s.heap.objs.size (.tup [.int i,x])) { s with heap:=h',toks:=s.toks+1 }:=I.turned2 hk (fun b hb=>by
   rcases ky.mp hb with z | z
   ·subst z;exact ⟨_,ho⟩
   ·have z:b=it:=by simpa using z
    subst z;exact ⟨_,ei⟩) fe fi new
  have ne1:e≠s.heap.objs.size:=Nat.ne_of_lt (Heap.lt_size he)
  have ne2:it≠s.heap.objs.size:=by obtain ⟨o2,e2,_⟩:=hit;exact Nat.ne_of_lt (Heap.lt_size e2)
  refine wpAny_letOwnedTupleGo_enum (s:={ s with heap:=h',toks:=s.toks+1 }) ho fun h2 he2 hs2=>?_
  have he2':IsEnum h2 e it (((i+1:Nat)):Int) u:=by simpa using he2
  refine ⟨.ref s.heap.objs.size,_,I1.turned (t':=s.toks+1) (it:=e) (fun b o hb q=>(hs2.2 b hb).trans q) (by rw [zg ne1];exact fe.1) fe.2.1 fe.2.2.2.1 fe.2.2.2.2.1 fe.2.2.2.2.2,rfl,⟨_,x,rfl,I.fresh,rfl,fun ys hy=>by rw [I.list_inj hy hq];exact hx⟩,⟨⟨u,he2'⟩,hit'.at fun o q=>(hs2.2 it hei.symm).trans q⟩,fun b hb=>?_⟩
  rcases ky.mp hb with z | z
  ·subst z;rw [zg ne1];exact fe.1
  ·have z:b=it:=by simpa using z
   subst z;rw [zg ne2];exact fi.1
 done:=by
  intro X hP hw hK hc i pins s σ H E I hf st hg
  subst hP hw hK
  obtain ⟨xs,hq,hx⟩:=hg
  obtain ⟨its,rv,p,hz⟩:=I.list hq
  obtain ⟨⟨old,he⟩,hit⟩:=st
  obtain ⟨f0,f1,f2,f3,f4,f5⟩:=hf it (by simp)
  have hl:=rv.length
  exact wpAny_pyNext_enum_end (I.ok.hd hc) he hit p.isList (by simp;lia) fun h' eb=>⟨rfl,I.turned (t':=s.toks) (fun b o hb e=>eb b o hb e) f0 f1 f3 f4 f5⟩
 self:=fun _ _ _ _ _ st h=>let ⟨old,he⟩:=st.1;wpAny_pyIter_enum he h
section
variable {X:Cx}
def z80 (K:ko) (ta:TA):TI:=fun σ H R=>ta σ H fun vs H1=>∃a,vs=[.ref a]∧(∃xs,SqL K H1 a xs)∧R (Ite K a) H1
theorem QV {a:Expr} {ta:TA} {p pos:Pos} {elts:List Expr} {x1} {tp:Pos} (hg:Gl X "enumerate") (hm:X.mg "enumerate"=none) (ha:PA X [a] ta) (hs:autoParam (starEach [a] X.env=[(false,eval a X.env)]) aR._auto_1):PI X (.Tuple elts x1 tp) (.Call (.Name "enumerate" p) [a] [] pos) (z80 X.K ta):=by
 intro pins s σ H R I h
 refine Call_ (ZK I hg hm boot_enumerate (PyProof.Rows.callWith_type1 (thn (ha pos pins s σ H _ I h) fun us s1 ⟨vs,H1,I1,r1,q1⟩=>?_) hs rfl))
 obtain ⟨l,e,⟨xs,hq⟩,q⟩:=q1
 subst e
 cases r1 with
 | cons r rr=>
  cases rr
  cases r
  obtain ⟨its,rv,p,hz⟩:=I1.list hq
  refine call_enumerate_list p.isList fun h' he hit hsz hk=>?_
  refine wpAny_pyIter_enum (s:={ s1 with heap:=h' }) he ?_
  have I2:Inv X pins σ H1 { s1 with heap:=h' }:=I1.kept (t':=s1.toks) hk
  have n0:H1 s1.heap.objs.size=none:=I1.fresh
  have n1:H1 (s1.heap.objs.size+1)=none:=I1.hok.fresh (Nat.le_succ _)
  refine ⟨s1.heap.objs.size+1,[s1.heap.objs.size+1,s1.heap.objs.size],_,_,H1,rfl,I2,z2i l _ _ (Nat.succ_ne_self _),⟨⟨_,he⟩,hit⟩,fun b hb=>?_,q⟩
  rcases ky.mp hb with z | z
  ·subst z;exact I1.fpOk (Nat.le_succ _) n1
  ·have z:b=s1.heap.objs.size:=by simpa using z
   subst z;exact I1.fpOk (kc _) n0
end
theorem Jb {K:ko} {a:Addr} {xs:List V} {g:TG} {tb:TS} {D:Ends} {σ:St} {H:Hp} (Pv:Nat→St→Hp→Prop) (h0:Pv 0 σ H) (hl:∀i σ H,i≤xs.length→Pv i σ H→SqL K H a xs)
  (hs:∀(i:Nat) x σ H p,xs[i]?=some x→Pv i σ H→H p=none→g (.ref p) σ (upd H p (.tup [.int i,x])) fun σ2 H2=>tb { D with nx:=Pv (i+1),ct:=Pv (i+1),bk:=D.nx } σ2 H2) (hd:∀σ H,Pv xs.length σ H→D.nx σ H):
  ∃W:Nat→Nat→St→Hp→Prop,(∃m,W 0 m σ H)∧∀i m σ H,W i m σ H→
   ((Ite K a).stop i H∧D.nx σ H)∨((Ite K a).go i H∧∃N:St→Hp→Prop,(∀σ' H',N σ' H'→∃m',m' < m∧W (i+1) m' σ' H')∧∀x H',(Ite K a).yld i H x H'→g x σ H' fun σ2 H2=>tb { D with nx:=N,ct:=N,bk:=D.nx } σ2 H2):=by
 refine ⟨fun i m σ H=>m=xs.length - i∧i≤xs.length∧Pv i σ H,⟨xs.length,by simp,Nat.zero_le _,h0⟩,?_⟩
 rintro i m σ H ⟨rfl,hi,p⟩
 have q:=hl i σ H hi p
 by_cases hlt:i < xs.length
 ·refine .inr ⟨⟨xs,xs[i],q,by simp [hlt]⟩,Pv (i+1),fun σ' H' p'=>⟨xs.length - (i+1),by lia,rfl,hlt,p'⟩,fun x H' y=>?_⟩
  obtain ⟨p',y',rfl,hn,rfl,y⟩:=y
  exact hs i y' σ _ p' (y xs q) p hn
 ·have e:i=xs.length:=by lia
  subst e
  exact .inl ⟨⟨xs,q,kc _⟩,hd σ H p⟩
end L2
namespace L2
open PySem PySem.Spec PyProof.Rows
section
variable {X:Cx}
def rS0 (f:Str→V):V→List V→Hp→VK→Prop:=fun x vs H Q=>∃z,x=.str z∧vs=[]∧Q (f z) H
theorem z1G:MtM X "str.isascii" (rS0 fun z=>.bl (Txt.isascii z)):=by
 intro pins s σ H x vs v us Q I rx rv h
 obtain ⟨z,rfl,rfl,q⟩:=h
 obtain ⟨t,rfl⟩:=rx
 cases rv
 exact SC.isascii ⟨.bl _,H,I,rfl,q⟩
theorem z1H:MtM X "str.isalpha" (rS0 fun z=>.bl (Txt.isalpha z)):=by
 intro pins s σ H x vs v us Q I rx rv h
 obtain ⟨z,rfl,rfl,q⟩:=h
 obtain ⟨t,rfl⟩:=rx
 cases rv
 exact SC.isalpha ⟨.bl _,H,I,rfl,q⟩
theorem z1F:MtM X "str.islower" (rS0 fun z=>.bl (Txt.islower z)):=by
 intro pins s σ H x vs v us Q I rx rv h
 obtain ⟨z,rfl,rfl,q⟩:=h
 obtain ⟨t,rfl⟩:=rx
 cases rv
 exact SC.islower ⟨.bl _,H,I,rfl,q⟩
theorem qb:Jl X (.builtin "isinstance") (fun xs H Q=>∃x T t b,xs=[x,.ty T]∧TyOf X.K H x t∧PySem.W.kitOne X.K t (.type T)=some b∧Q (.bl b) H):=by
 intro pins s σ H xs us Q I r h
 obtain ⟨x,T,t,b,rfl,ty,e,q⟩:=h
 obtain ⟨u,u2,rfl,ru,r2⟩:=z5u r
 cases r2
 exact z38 I ru ty e fun tk=>⟨.bl b,H,I.tok tk,rfl,q⟩
end
end L2
namespace L2
open PySem PySem.Spec PyProof.Rows
def KTab (P:Params) (K:ko) (d:Addr) (tab:List (Str × V)):Prop:=
 ∃es n,K.lookup d=some ⟨.type "dict",none,.dict es n,#[]⟩∧PySem.W.KeysLit P es.toList∧(d == sysModules)=false∧Paired (fun (p:Str × V) (e:DictEntry)=>(∃t,e.key=.str p.1 t)∧RelV p.2 e.val) tab es.toList
theorem JN {x:Str}:∀{tab:List (Str × V)} {es:List DictEntry},Paired (fun (p:Str × V) (e:DictEntry)=>(∃t,e.key=.str p.1 t)∧RelV p.2 e.val) tab es→
  RelO (tab.lookup x) ((es.find? fun e=>Value.isStrOf x e.key).map (·.val))
 | _,_,.nil=>trivial
 | (k,v) :: tab,e :: es,.cons ⟨⟨t,hk⟩,hv⟩ r=>by
  have ih:=JN (x:=x) r
  by_cases hx:x=k
  ·subst hx
   have h1:((x,v) :: tab).lookup x=some v:=by simp [List.lookup]
   have h2:(e :: es).find? (fun e=>Value.isStrOf x e.key)=some e:=by
    rw [List.find?_cons,hk]
    simp [Value.isStrOf]
   rw [h1,h2]
   exact hv
  ·have h1:((k,v) :: tab).lookup x=tab.lookup x:=by
    rw [List.lookup_cons]
    have:(x == k)=false:=by simpa using hx
    rw [this]
   have h2:(e :: es).find? (fun e=>Value.isStrOf x e.key)=es.find? (fun e=>Value.isStrOf x e.key):=by
    rw [List.find?_cons,hk]
    have:Value.isStrOf x (Value.str k t)=false:=by simpa [Value.isStrOf] using fun z=>hx z.symm
    rw [this]
   rw [h1,h2]
   exact ih
section
variable {X:Cx}
theorem J6 {P:Params} {K:ko} {prog:Program} {w:World} {h:Heap} {d:Addr} {tab:List (Str × V)} (hP:P=w.params) (t:KTab P K d tab) (kin:K.In h):
  ∃f,h.MapOf (strKind prog w) d f∧(d == sysModules)=false∧∀x,RelO (tab.lookup x) (f x):=by
 subst hP
 obtain ⟨es,n,hl,hk,hd,hp⟩:=t
 refine ⟨_,PySem.W.mapOf_K (prog:=prog) kin hl hk,hd,fun x=>?_⟩
 have q:=JN (x:=x) hp
 show RelO _ (findBy Value.isStrOf es x)
 unfold findBy
 rw [←Array.find?_toList]
 exact q
def z7H (tab:List (Str × V)) (ty:TE):TE:=fun σ H Q=>ty σ H fun y H1=>∃x v,y=.str x∧tab.lookup x=some v∧Q v H1
theorem z2Q {nm:Str} {i:Expr} {p pos:Pos} {d:Addr} {tab:List (Str × V)} {ty:TE} (T:KTab X.w.params X.K d tab) (hg:Gl X nm) (hm:X.mg nm=some (.ref d)) (hi:PE X i ty) (hs:NoSl i) (hd:autoParam ((nm == ("__debug__":Str))=false) aR._auto_2):
  PE X (.Subscript (.Name nm p) i pos) (z7H tab ty):=by
 intro pins s σ H Q I h
 refine z2o PySem.F.slot_dict_getitem.lookup hs (Qi I hg hm (thn (hi pins s σ H _ I h) fun iv s2 ⟨y,H2,I2,ry,x,v,ex,l,q⟩=>?_) hd)
 subst ex
 obtain ⟨t,rfl⟩:=ry
 obtain ⟨f,mo,_,hf⟩:=J6 (prog:=X.prog) (w:=X.w) rfl T I2.kIn
 have hf:=hf x
 rw [l] at hf
 obtain ⟨w',e',rw'⟩:=RelO.some_of hf
 exact ⟨mo.typeIs,wpAny_getItem_of (strKind_is X.prog X.w x t) mo e' ⟨v,H2,I2.tok _,rw',q⟩⟩
def tKIn (tab:List (Str × V)) (ty:TE):TE:=fun σ H Q=>ty σ H fun y H1=>∃x,y=.str x∧Q (.bl (tab.lookup x).isSome) H1
theorem z6Y {nm:Str} {i:Expr} {p:Pos} {d:Addr} {tab:List (Str × V)} {ty:TE} (T:KTab X.w.params X.K d tab) (hg:Gl X nm) (hm:X.mg nm=some (.ref d)) (hi:PE X i ty) (hd:autoParam ((nm == ("__debug__":Str))=false) aR._auto_2):
  PC X .In i (.Name nm p) (tKIn tab ty):=by
 intro pins s σ H Q I h
 refine thn (hi pins s σ H _ I h) fun iv s1 ⟨y,H1,I1,ry,x,ex,q⟩=>Qi I1 hg hm ?_ hd
 subst ex
 obtain ⟨t,rfl⟩:=ry
 obtain ⟨f,mo,lo,hf⟩:=J6 (prog:=X.prog) (w:=X.w) rfl T I1.kIn
 refine wpAny_in_of (strKind_is X.prog X.w x t) lo mo ⟨.bl _,H1,I1.tok _,rfl,?_⟩
 rw [←RelO.isSome_eq (hf x)]
 exact q
def z6J (X:Cx) (i:Nat) (t:TA):TE:=fun σ H Q=>∃(f:Addr) (fd:FuncData) (ps:List Str) (sp:Sp) (k:Nat),σ[i]?=some (some (.ref f))∧PySem.W.keepIn X.K (.ref f)=true∧FnOk X.prog X.w X.K X.mg X.base CX0 k f fd ps sp∧Room k X.A∧Qu X.K fd ps []∧
 t σ H fun vs H1=>sp vs H1 Q E0
theorem z4g {i:Nat} {x:Str} {p pos:Pos} {e:Expr} {es:List Expr} {t:TA} (hv:PE X (.Name x p) (tVar i)) (ha:PA X (e :: es) t)
  (he:autoParam (starEach (e :: es) X.env=(false,eval e X.env) :: starEach es X.env) aR._auto_1) (hpl:autoParam ((backTo pos (starEach es X.env)).any (·.1)=false) aR._auto_1):
  PE X (.Call (.Name x p) (e :: es) [] pos) (z6J X i t):=by
 intro pins s σ H Q I h
 obtain ⟨f,fd,ps,sp,k,hσ,hk,F,hr,hb,h⟩:=h
 refine wpAny_Call_Name_kw (thn (hv pins s σ H (fun v H1=>v=.ref f∧H1=H) I ⟨.ref f,hσ,rfl,rfl⟩) fun u s1 zz=>?_)
 obtain ⟨v,H1,I1,r1,e1,e2⟩:=zz
 subst e1
 subst e2
 cases r1
 refine PySem.W.callWith_K (h₀:=X.base) I1.ok.mod.kin hk (thn (ha pos pins s1 σ _ _ I1 h) fun us s2 ⟨vs,H2,I2,r,q⟩=>⟨I2.kIn,?_⟩) he hpl
 exact z5b F hr hb .nil z5N I2 r (by rw [kQ];exact q)
def rEqE (K:ko):R2:=fun x y H Q=>∃p q xs,x=.ref p∧y=.ref q∧SqL K H p xs∧SqL K H q []∧Q (.bl (decide (xs=[]))) H
theorem z5g (hu:X.A.units < cLine):OpR X (compareOp .Eq) (rEqE X.K):=by
 intro pins s σ H x y v u Q I rx ry h
 obtain ⟨p,q,xs,rfl,rfl,h1,h2,hq⟩:=h
 cases rx
 cases ry
 obtain ⟨its,r,pl,_⟩:=I.list h1
 obtain ⟨its2,r2,pl2,_⟩:=I.list h2
 cases r2
 cases r with
 | nil=>
  refine SeqAt.eq_listAt (e:=fun _=>true) pl.isList pl2.isList rfl hu (fun j h1 _=>absurd h1 (by simp)) ⟨.bl _,H,I,rfl,?_⟩
  simpa using hq
 | cons a b=>
  refine SeqAt.eq_list_lengthsAt pl.isList pl2.isList (by simp) hu ⟨.bl _,H,I,rfl,?_⟩
  simpa using hq
def z5y (td ty tx:TE):TE:=fun σ H Q=>td σ H fun x H1=>∃a,x=.ref a∧IsD H1 a∧ty σ H1 fun y H2=>tx σ H2 fun z H3=>∃kvs k,H3 a=some (.dK kvs)∧y=kV k∧kvs.length < sizeLine∧
 match valV kvs k with
 | some v=>Q v H3
 | none=>Q z (upd H3 a (.dK (putK kvs k z)))
theorem z2P {o e f:Expr} {apos cpos:Pos} {td ty tx:TE} (ho:PE X o td) (he:PE X e ty) (hf:PE X f tx) (m:M2 X o "setdefault" apos e f cpos):PE X (.Call (.Attribute o "setdefault" apos) [e,f] [] cpos) (z5y td ty tx):=by
 intro pins s σ H Q I h
 refine wpAny_Call_method m.base m.few m.line PySem.F.plainAttrs_dict PySem.F.slot_dict_setdefault PySem.F.type_dict_setdefault (thn (ho pins s σ H _ I h) fun u s1 zz=>?_)
 obtain ⟨x,H1,I1,rx,a,ex,d,q1⟩:=zz
 subst ex
 obtain rfl:u=Value.ref a:=rx
 obtain ⟨t1,t2,_⟩:=z5k I1 d
 refine ⟨t1,t2,?_⟩
 rw [m.trees]
 refine Calls.callWith_builtin rfl (Calls.evalArgs_plain (Calls.spliced_cons (thn (he pins s1 σ H1 _ I1 q1) fun iv s2 ⟨y,H2,I2,ry,q2⟩=>
  Calls.spliced_cons (thn (hf pins s2 σ H2 _ I2 q2) fun fv s3 ⟨z,H3,I3,rz,kvs,k,ea,ek,hz,q3⟩=>Calls.spliced_nil ?_))))
 subst ek
 obtain ⟨hl,lo,vs,rel,dd⟩:=z21 I3.hok ea
 have lenr:=rel.length
 have hargs:argsOk "dict.setdefault" ⟨[.ref a,iv,fv],[]⟩:=PySem.F.args_dict_setdefault_3 _ _ _
 show wpAny (model X.prog X.w) X.A (call (.builtin "dict.setdefault") [.ref a,iv,fv]) _ _ _
 refine call_meetsIn PySem.F.slot_dict_setdefault dd.typeIs PySem.F.entry_dict_setdefault hargs (kt_meets_setdefault (zI X.prog X.w) a (J7 ry) lo fv) ⟨vs,dd,by lia,fun v hv=>?_,fun hn h' dd' sb=>?_⟩
 ·cases l:valV kvs k with
  | none=>
   have:=rel.val k
   rw [l,hv] at this
   exact this.elim
  | some w'=>
   have r:=rel.val k
   rw [l,hv] at r
   rw [l] at q3
   exact ⟨w',H3,I3.tok _,r,q3⟩
 ·cases l:valV kvs k with
  | some w'=>
   have r:=rel.val k
   rw [l,hn] at r
   exact r.elim
  | none=>
   rw [l] at q3
   refine ⟨z,_,Je I3 (ob:=.dK (putK kvs k z)) (by rw [ea];exact trivial) sb ?_ (z1j (kn (qp kvs k z) hz) lo (rel.put k rz) dd'),rz,q3⟩
   obtain ⟨ob,_,_,e,_⟩:=dd'
   exact ⟨ob,e⟩
end
end L2
namespace L2
open PySem PySem.Spec PyProof.Rows
theorem z01 {prog:Program} {w:World} {A:Around} {R:Result→Shared→Prop} {s:Shared} {elt target iter:Expr} {ifs:List Expr} {scope:Scope} {pos:Pos} {it acc:Value} {env:Env} (I:Nat→Shared→Prop)
  (turn:∀n s,I n s→wpAny (model prog w) A (pyNext it) (fun r s₁=>match r with
   | none=>R (.ok .next) s₁
   | some v=>wpAny (model prog w) A (letOwnedTupleGo target it v) (fun _ s₁'=>wpAny (model prog w) A (assign target env v) (fun _ s₂=>
     wpAny (model prog w) A (forIn ifs true fun c r=>if r=true then do let ok ←isTrue c env (eval c env);pure (ForInStep.yield ok) else pure (ForInStep.yield r)) (fun ok s₃=>
     if ok=true then wpAny (model prog w) A (eval elt env) (fun x s₃'=>
      wpAny (model prog w) A (call (.builtin "list.append") [acc,x]) (fun _ s₄=>∃m,m < n∧I m s₄) (fun _ _=>False) s₃') (fun _ _=>False) s₃
     else ∃m,m < n∧I m s₃)
     (fun _ _=>False) s₂) (fun _ _=>False) s₁') (fun _ _=>False) s₁) (fun _ _=>False) s)
  (n:Nat) (h:I n s):codeAny (model prog w) A (.compLoop (.ListComp elt [⟨target,iter,ifs,0⟩] scope pos) 0 it acc env) R s:=by
 refine codeAny_loop rfl I (fun n s hI=>?_) n h
 show wpAny _ _ ((compTurn (.ListComp elt [⟨target,iter,ifs,0⟩] scope pos) 0 it acc env).onRaise (fun x=>do noteFrame x env;theTreesLotGoes x)) _ _ s
 refine wpAny_noted ?_
 rw [compTurn_list]
 refine wpAny_bind (wpAny_standAt (wpAny_bind (wpAny_mono (turn n s hI) (fun r s₁ h₁=>?_) fun _ _ h'=>h'.elim)))
 cases r with
 | none=>exact wpAny_pure h₁
 | some v=>
  refine wpAny_bind (wpAny_mono h₁ (fun _ s₁' h₁'=>?_) fun _ _ h'=>h'.elim)
  refine wpAny_bind (wpAny_mono h₁' (fun _ s₂ h₂=>wpAny_bind (wpAny_mono h₂ (fun ok s₃ h₃=>?_) fun _ _ h'=>h'.elim)) fun _ _ h'=>h'.elim)
  cases ok with
  | true=>
   rw [kr rfl] at h₃ ⊢
   exact wpAny_bind (wpAny_bind (wpAny_mono h₃ (fun x s₃' h₃'=>wpAny_bind (wpAny_mono h₃' (fun _ s₄ h₄=>wpAny_pure (wpAny_pure ⟨rfl,h₄⟩)) fun _ _ h'=>h'.elim)) fun _ _ h'=>h'.elim))
  | false=>
   rw [kq ka] at h₃ ⊢
   exact wpAny_bind (wpAny_pure (wpAny_pure ⟨rfl,h₃⟩))
noncomputable abbrev zo (X:Cx) (N:List Str) (scope:Scope) (cl:List (Str × Addr)) (s:Shared) (H:Hp) (fp:List Addr) (C:Addr):Cx where
 prog:=X.prog
 w:=X.w
 K:=X.K
 mg:=X.mg
 base:=X.base
 A:=X.A
 N:=N
 s₀:=s
 H₀:=H
 env:=compEnvC scope cl C X.env
 outer:=X.stack
 stack:=X.stack
 ex:=fp
 fn:=fun _=>false
 calm:=true
 pn:=[]
 xe:=fun _ _=>False
structure qf (X:Cx) (N:List Str) (nt:Nat) (ix:List Nat) (scope:Scope) (cl:List (Str × Addr)):Prop where
 clos:closureFor scope X.env=pure cl
 nocell:∀y∈scope.names,y.2≠.cell
 kind:scope.kind=.function
 names:∀y∈scope.names,y.2=.local→scope.names.lookup y.1=some .local
 sub:∀x c,cl.lookup x=some c→X.env.cells.lookup x=some c
 has:∀x,((relabel scope X.env).names.lookup x=some .cell∨(relabel scope X.env).names.lookup x=some .free)→∃c,cl.lookup x=some c
 len:N.length=nt+ix.length
 free:∀j x,N[nt+j]?=some x→∃i,ix[j]?=some i∧X.N[i]?=some x∧X.env.kindOf x=some .cell∧(relabel scope X.env).names.lookup x=some .cell∧∀c,X.env.cells.lookup x=some c→cl.lookup x=some c
noncomputable def qt (nt:Nat) (ix:List Nat) (σ:St):St:=List.replicate nt none++ix.map fun i=>(σ[i]?).join
def PTs (X:Cx) (ifs:List Expr) (tc:TT):Prop:=
 ∀(pins:List (Addr × Obj)) (s:Shared) (σ:St) (H:Hp) (Q:Bool→Hp→Prop),Inv X pins σ H s→tc σ H Q→
  wpAny (model X.prog X.w) X.A (forIn ifs true fun c r=>if r=true then do let ok ←isTrue c X.env (eval c X.env);pure (ForInStep.yield ok) else pure (ForInStep.yield r)) (TP X pins σ Q) X.xe s
def tAll:TT:=fun _ H Q=>Q true H
theorem Q7 {X:Cx}:PTs X [] tAll:=fun pins s σ H Q I h=>wpAny_tests_nil ⟨H,I,h⟩
theorem Q6 {X:Cx} {c:Expr} {tc:TT} (h:PT X c tc):PTs X [c] tc:=fun pins s σ H Q I hq=>wpAny_tests_one (h pins s σ H Q I hq)
def z55 (nt:Nat) (ix:List Nat) (wi:TI) (g:TG) (tc:TT) (te:TE):TE:=fun σ H Q=>wi σ H fun J H1=>∀l,H1 l=none→∃W:Nat→Nat→List V→St→Hp→Prop,(∃m,W 0 m [] (qt nt ix σ) (upd H1 l (.lst [])))∧∀i m ys σ' H2,W i m ys σ' H2→
 (J.stop i H2∧Q (.ref l) H2)∨(J.go i H2∧∀x H3,J.yld i H2 x H3→g x σ' H3 fun σ2 H4=>tc σ2 H4 fun b H5=>if b=true then te σ2 H5 fun v H6=>H6 l=some (.lst ys)∧ys.length < sizeLine∧∃m',m' < m∧W (i+1) m' (ys++[v]) σ2 (upd H6 l (.lst (ys++[v])))
  else ∃m',m' < m∧W (i+1) m' ys σ2 H5)
section
variable {X:Cx}
theorem Z5 {elt iter tg:Expr} {ifs:List Expr} {N:List Str} {nt:Nat} {ix:List Nat} {scope:Scope} {cl:List (Str × Addr)} {pos:Pos} {pins:List (Addr × Obj)} {σ:St} {H:Hp} {s:Shared} {it:Addr} {fp:List Addr} {tn:Nat→Heap→Prop} {J:It} {g:TG} {tc:TT} {te:TE} {Q:VK} {E:Value→Shared→Prop}
  {RR:Value→Addr→Result→Shared→Prop}
  (hc:X.calm=true) (sc:qf X N nt ix scope cl) (I:Inv X pins σ H s) (T:Turn X.prog X.w X.K tg J fp it tn) (st:tn 0 s.heap) (hf:∀b∈fp,FpOk X pins H b)
  (hg:∀(s:Shared) (H:Hp) (fp:List Addr) (C:Addr),PG (zo X N scope cl s H fp C) tg g)
  (ht:∀(s:Shared) (H:Hp) (fp:List Addr) (C:Addr),PTs (zo X N scope cl s H fp C) ifs tc)
  (he:∀(s:Shared) (H:Hp) (fp:List Addr) (C:Addr),PE (zo X N scope cl s H fp C) elt te)
  (h:∀l,H l=none→∃W:Nat→Nat→List V→St→Hp→Prop,(∃m,W 0 m [] (qt nt ix σ) (upd H l (.lst [])))∧∀i m ys σ' H2,W i m ys σ' H2→
   (J.stop i H2∧Q (.ref l) H2)∨(J.go i H2∧∀x H3,J.yld i H2 x H3→g x σ' H3 fun σ2 H4=>tc σ2 H4 fun b H5=>if b=true then te σ2 H5 fun v H6=>H6 l=some (.lst ys)∧ys.length < sizeLine∧∃m',m' < m∧W (i+1) m' (ys++[v]) σ2 (upd H6 l (.lst (ys++[v])))
    else ∃m',m' < m∧W (i+1) m' ys σ2 H5))
  (hRR:∀D C s' H' m,Inv X pins σ H' s'→s'.heap.Ns C m→C≠X.env.locals→H' C=none→X.s₀.heap.objs.size≤C→(∀x c,X.env.cells.lookup x=some c→c≠C)→(∀p∈X.pn++pins,p.1≠C)→Q (.ref D) H'→RR (.ref D) C (.ok .next) s'):
  wpAny (model X.prog X.w) X.A (newList []) (fun acc s₃=>wpAny (model X.prog X.w) X.A (newFunctionEnv scope X.env.globals cl [] X.env.qual none .none (some X.env)) (fun cenv s₄=>
   codeAny (model X.prog X.w) X.A (.compStart (.ListComp elt [⟨tg,iter,ifs,0⟩] scope pos) 0 (.ref it) acc { cenv with scope:=relabel scope X.env }) (RR acc cenv.locals) s₄) E s₃) E s:=by
 refine wpAny_newObj_type ?_
 have I3:Inv X pins σ (upd H s.heap.objs.size (.lst [])) { s with heap:=s.heap.push { cls:=.type "list",data:=.seq ([]:List Value).toArray } }:=I.lnew (ys:=[]) (its:=[]) (t':=s.toks) .nil (Nat.zero_le _)
 have st3:tn 0 (s.heap.push { cls:=.type "list",data:=.seq ([]:List Value).toArray }):=T.keep _ _ _ st fun b hb o e=>Heap.get?_push_of_some _ e
 have fpl:∀b∈fp,b < s.heap.objs.size:=fun b hb=>by
  obtain ⟨o,e,_⟩:=T.obj _ _ st b hb
  exact Heap.lt_size e
 obtain ⟨W,⟨m0,w0⟩,turn⟩:=h s.heap.objs.size I.fresh
 have hf3:∀b∈fp,FpOk X pins (upd H s.heap.objs.size (.lst [])) b:=fun b hb=>⟨by rw [zg (Nat.ne_of_lt (fpl b hb))];exact (hf b hb).1,(hf b hb).2⟩
 generalize hD:s.heap.objs.size=D at *
 generalize hH3:upd H D (HO.lst [])=H3 at *
 generalize hs3:({ s with heap:=s.heap.push { cls:=.type "list",data:=.seq ([]:List Value).toArray } }:Shared)=s3 at *
 have hsz3:s3.heap.objs.size=D+1:=by rw [←hs3,←hD];exact Heap.size_push ..
 have st3':tn 0 s3.heap:=by rw [←hs3];exact st3
 refine wpAny_newFunctionEnv (s:=s3) sc.nocell (by intro y hy;simp at hy) (fun h1 hns hsb=>?_) sc.kind
 generalize hC:s3.heap.objs.size=C at *
 have kept:∀b o,s3.heap.get? b=some o→h1.get? b=some o:=fun b o e=>hsb.extBut b o (by rw [←hC];exact Nat.ne_of_lt (Heap.lt_size e)) (Heap.get?_push_of_some _ e)
 show codeAny (model X.prog X.w) X.A (.compStart (.ListComp elt [⟨tg,iter,ifs,0⟩] scope pos) 0 (.ref it) (.ref D) (compEnvC scope cl C X.env)) (RR (.ref D) C) { s3 with heap:=h1,toks:=s3.toks+0 }
 have fpC:∀b∈fp,b≠C:=fun b hb=>Nat.ne_of_lt (kI (fpl b hb) (by rw [hsz3];exact Nat.le_succ D))
 have cellC:∀x c,cl.lookup x=some c→c≠C:=fun x c e z=>by
  obtain ⟨v,q⟩:=I3.cell x c (sc.sub x c e)
  have:=q.lt
  rw [hC,z] at this
  exact Nat.lt_irrefl _ this
 have ok:(zo X N scope cl s3 H3 fp C).Ok:={
  mod:=I.ok.mod,kind:=(show (relabel scope X.env).kind=.function from sc.kind),glob:=I.ok.glob,blt:=I.ok.blt,above:=kS hC
  inj:=fun y z c e e'=>I.ok.inj y z c (sc.sub y c e) (sc.sub z c e')
  has:=fun y hy=>sc.has y hy
  cab:=fun y c e _=>nomatch e
  hd:=fun _=>I.ok.hd hc
  frames:=I.ok.frames
  stk:=.inl rfl
  exf:=fun b hb=>⟨fpC b hb,fun y c e=>(hf3 b hb).2.2.2.2.1 y c (sc.sub y c e)⟩
  bs:=I3.bs
  bsz:=kn I.ok.bsz I3.sz
  noex:=fun b o e hb=>by
   obtain ⟨_,_,_,h4,_⟩:=hf3 b hb
   rcases h4 with z | z
   ·exact I.ok.noex b o e z
   ·exact absurd (kI (Heap.lt_size (I.ok.bs b o e).1) z) (Nat.lt_irrefl _)
  exfs:=fun b hb z=>by
   obtain ⟨_,h1,h2,_⟩:=hf3 b hb
   rcases ky.mp (I3.stkSub b z) with q | q
   ·exact h1 q
   ·exact h2 q
  funs:=I3.stack
  frf:=I3.stkFree }
 have cellK:∀c v,s3.heap.IsCell c v→h1.IsCell c v:=fun c v ⟨o,ho,hd⟩=>⟨o,kept c o ho,hd⟩
 have I4:Inv (zo X N scope cl s3 H3 fp C) [] (qt nt ix σ) H3 { s3 with heap:=h1,toks:=s3.toks+0 }:={
  ok:=ok,os:=rfl,bare:=I3.bare,base:=Un.kept kept
  loc:=⟨_,hns,fun i y v e1 e2 _=>by
   have e2:(qt nt ix σ)[i]?=some (some v):=e2
   unfold qt at e2
   by_cases hi:i < nt
   ·rw [yc (by simpa using hi),List.getElem?_replicate,kr hi] at e2
    cases e2
   ·obtain ⟨j,rfl⟩:∃j,i=nt+j:=⟨i - nt,by lia⟩
    rw [yd (by simp),List.length_replicate,Nat.add_sub_cancel_left,List.getElem?_map] at e2
    obtain ⟨k,hk,hXN,hkind,hrel,hcl⟩:=sc.free j y e1
    rw [hk] at e2
    have e3:σ[k]?=some (some v):=by
     cases q:σ[k]? with
     | none=>rw [Option.map_some,q] at e2;cases e2
     | some o=>rw [Option.map_some,q] at e2;simpa using e2
    obtain ⟨m,_,hl⟩:=I3.loc
    obtain ⟨u,ru,lk⟩:=hl k y v hXN e3 (.inr (.inl hkind))
    refine ⟨u,ru,.inr ⟨.inl hrel,?_⟩⟩
    rcases lk with ⟨z,_⟩ | ⟨_,c,hcc,hcell⟩
    ·rw [hkind] at z;cases z
    ·exact ⟨c,hcl c hcc,cellK _ _ hcell⟩⟩
  cell:=fun y c e=>let ⟨v,q⟩:=I3.cell y c (sc.sub y c e);⟨v,cellK _ _ q⟩
  free:=I3.hok.fresh (kS hC)
  freeC:=fun y c e=>I3.freeC y c (sc.sub y c e)
  pin:=fun p hp=>absurd (show p∈([]:List (Addr × Obj)) from hp) (by simp)
  hok:=I3.hok.kept kept
  len:=by show (qt nt ix σ).length=N.length;rw [sc.len];unfold qt;simp }
 have st4:tn 0 h1:=T.keep _ _ _ st3' fun b hb o e=>kept b o e
 have stat:∀{H':Hp},(∀b∈fp,H' b=none)→∀b∈fp,FpOk (zo X N scope cl s3 H3 fp C) [] H' b:=fun hn b hb=>⟨hn b hb,fpC b hb,ok.exfs b hb,.inl hb,(fun y c e=>(hf3 b hb).2.2.2.2.1 y c (sc.sub y c e)),fun p hp=>absurd (show p∈([]:List (Addr × Obj)) from hp) (by simp)⟩
 have loop:codeAny (model X.prog X.w) X.A (.compLoop (.ListComp elt [⟨tg,iter,ifs,0⟩] scope pos) 0 (.ref it) (.ref D) (compEnvC scope cl C X.env)) (RR (.ref D) C) { s3 with heap:=h1,toks:=s3.toks+0 }:=by
  refine z01 (fun n s'=>∃i ys σ' H',Inv (zo X N scope cl s3 H3 fp C) [] σ' H' s'∧tn i s'.heap∧(∀b∈fp,H' b=none)∧W i n ys σ' H') ?_ m0 ⟨0,[],_,H3,I4,st4,fun b hb=>(hf3 b hb).1,w0⟩
  rintro n s5 ⟨i,ys,σ5,H5,I5,st5,fr5,w5⟩
  rcases turn i n ys σ5 H5 w5 with ⟨stop,qn⟩ | ⟨go,step⟩
  ·refine thn (T.done (zo X N scope cl s3 H3 fp C) rfl rfl rfl rfl i [] s5 σ5 H5 _ I5 (stat fr5) st5 stop) fun r s6 zz=>?_
   obtain ⟨hr,I6⟩:=zz
   subst hr
   obtain ⟨m6,n6,_⟩:=I6.loc
   refine hRR D C s6 H5 m6 (I3.call' I6.os I6.base I6.hok I6.bare fun b hb=>?_) n6 (Nat.ne_of_gt (by have:=I3.lt;rw [hC] at this;exact this)) I6.free (by have:=I3.sz;rw [hC] at this;exact this) (fun y c e z=>?_) (fun p hp z=>?_) qn
   ·obtain ⟨_,h1,_,h4,h5,h6⟩:=hf3 b hb
    exact ⟨h4,h1,h5,h6⟩
   ·obtain ⟨v,q⟩:=I3.cell y c e
    have:=q.lt
    rw [hC,z] at this
    exact Nat.lt_irrefl _ this
   ·have:=Heap.lt_size (I3.pin p hp).1
    rw [hC,z] at this
    exact Nat.lt_irrefl _ this
  ·refine thn (T.item (zo X N scope cl s3 H3 fp C) rfl rfl rfl rfl i [] s5 σ5 H5 _ I5 (stat fr5) st5 go) fun r s6 zz=>?_
   obtain ⟨u,hr,h6⟩:=zz
   subst hr
   refine thn h6 fun _ s7 zz=>?_
   obtain ⟨v,H7,I7,r7,y7,st7,fr7⟩:=zz
   have I7':=I7.pinned (stat fr7) (T.obj _ _ st7)
   refine thn (hg s3 H3 fp C _ s7 σ5 H7 v u _ I7' r7 (step v H7 y7)) fun _ s8 zz=>?_
   obtain ⟨σ8,H8,I8,q8⟩:=zz
   refine thn (ht s3 H3 fp C _ s8 σ8 H8 _ I8 q8) fun b s9 zz=>?_
   obtain ⟨H9,I9,q9⟩:=zz
   have again:∀{sE:Shared} {HE:Hp} {ysE:List V} {m':Nat},Inv (zo X N scope cl s3 H3 fp C) ([]++ZH fp s7.heap) σ8 HE sE→m' < n→W (i+1) m' ysE σ8 HE→∃m,m < n∧∃i ys σ' H',Inv (zo X N scope cl s3 H3 fp C) [] σ' H' sE∧tn i sE.heap∧(∀b∈fp,H' b=none)∧W i m ys σ' H':=fun {sE HE ysE m'} IE hm' wE=>by
    refine ⟨m',hm',i+1,ysE,σ8,HE,IE.unpinned (pins:=[]),T.keep _ _ _ st7 fun b hb o e=>(IE.pin (b,o) (kJ _ (kJ _ (ql hb e)))).1,fun b hb=>?_,wE⟩
    obtain ⟨o,e,d⟩:=T.obj _ _ st7 b hb
    exact (IE.pin (b,o) (kJ _ (kJ _ (ql hb e)))).2.1
   cases b with
   | false=>
    rw [kq ka] at q9 ⊢
    obtain ⟨m',hm',w9⟩:=q9
    exact again I9 hm' w9
   | true=>
    rw [kr rfl] at q9 ⊢
    refine thn (he s3 H3 fp C _ s9 σ8 H9 _ I9 q9) fun yv s10 zz=>?_
    obtain ⟨y,H10,I10,r10,q10⟩:=zz
    obtain ⟨hl9,hz9,m',hm',w9⟩:=q10
    obtain ⟨z9,its,k9,rv9,ll9,e9⟩:=I10.lstM hl9
    refine call_meets F.slot_list_append ⟨_,e9,rfl⟩ F.entry_list_append (F.args_list_append_2 _ _) (PySem.list_append D its.toArray k9 yv (by rw [kz];lia)) ⟨e9,?_⟩
    have I11:=I10.lset (t':=s10.toks) (its':=its++[yv]) (f:=(·.push yv)) hl9 e9 (by simp) (rv9.append (.cons r10 .nil)) (by rw [ki,kC];lia)
    exact again I11 hm' w9
 exact codeAny_compStart_list loop (T.self _ 0 _ _ _ st4 loop)
theorem z0Y {elt iter tg:Expr} {ifs:List Expr} {N:List Str} {nt:Nat} {ix:List Nat} {scope:Scope} {cl:List (Str × Addr)} {pos:Pos} {wi:TI} {g:TG} {tc:TT} {te:TE} (hc:X.calm=true) (sc:qf X N nt ix scope cl) (hi:PI X tg iter wi)
  (hg:∀(s:Shared) (H:Hp) (fp:List Addr) (C:Addr),PG (zo X N scope cl s H fp C) tg g)
  (ht:∀(s:Shared) (H:Hp) (fp:List Addr) (C:Addr),PTs (zo X N scope cl s H fp C) ifs tc)
  (he:∀(s:Shared) (H:Hp) (fp:List Addr) (C:Addr),PE (zo X N scope cl s H fp C) elt te) (hs:∀x,foldedSetIterable iter X.env x=pure x:=by intro _;rfl):
  PE X (.ListComp elt [⟨tg,iter,ifs,0⟩] scope pos) (z55 nt ix wi g tc te):=by
 intro pins s σ H Q I h
 rw [eval_ListComp]
 refine wpAny_comprehension_free (use:=none) rfl hs sc.clos sc.kind sc.names (thn (hi pins s σ H _ I h) fun v s1 h1=>thn h1 fun itv s2 h2=>?_)
 obtain ⟨it,fp,tn,J,H2,e,I2,T,st2,f2,q2⟩:=h2
 subst e
 refine Z5 (RR:=fun acc C=>compPost (model X.prog X.w) X.A X.xe none (EP X pins σ Q) acc C) hc sc I2 T st2 f2 hg ht he q2 ?_
 intro D C s' H' m I' n' c1 c2 c3 c4 c5 q'
 exact ⟨m,n',fun h' hs'=>⟨.ref D,H',I'.turned (t':=s'.toks) (it:=C) (fun b o hb e=>(hs'.2 b hb).trans e) c2 c1 (.inr c3) c4 c5,rfl,q'⟩⟩
theorem jp {elt iter tg:Expr} {ifs:List Expr} {N:List Str} {nt:Nat} {ix:List Nat} {y:Str} {i:Nat} {py spos:Pos} {scope:Scope} {cl:List (Str × Addr)} {pos:Pos} {wi:TI} {g:TG} {tc:TT} {te:TE} (hc:X.calm=true) (hN:X.N.Nodup) (hy:X.N[i]?=some y) (hl:Loc X.env.scope y) (sc:qf X N nt ix scope cl) (hi:PI X tg iter wi)
  (hg:∀(s:Shared) (H:Hp) (fp:List Addr) (C:Addr),PG (zo X N scope cl s H fp C) tg g)
  (ht:∀(s:Shared) (H:Hp) (fp:List Addr) (C:Addr),PTs (zo X N scope cl s H fp C) ifs tc)
  (he:∀(s:Shared) (H:Hp) (fp:List Addr) (C:Addr),PE (zo X N scope cl s H fp C) elt te)
  (hsw:autoParam (swapsWith (.ListComp elt [⟨tg,iter,ifs,0⟩] scope pos) (some (.Name y py)) spos.line X.env=pure true) aR._auto_1) (hs:∀x,foldedSetIterable iter X.env x=pure x:=by intro _;rfl)
  (hf:X.fn y=true∨X.env.scope.names.lookup y=some .local:=by first | exact .inl rfl | exact .inr rfl | assumption):
  PS X (.Assign [.Name y py] (.ListComp elt [⟨tg,iter,ifs,0⟩] scope pos) spos) (QO i (z55 nt ix wi g tc te)):=by
 intro pins s σ H D I h
 rw [exec_Assign_Name_used _ _ _ _ hsw]
 refine wpAny_bind (wpAny_standAt (wpAny_bind ?_))
 show wpAny _ X.A (do let _ ←comprehension (.ListComp elt [⟨tg,iter,ifs,0⟩] scope pos) scope X.env _ (newList []) false (eval iter X.env) (some (assign (.Name y py) X.env))) _ _ s
 refine wpAny_bind (wpAny_mono (wpAny_comprehension_free (use:=some (assign (.Name y py) X.env)) (Q:=fun _ s'=>SP X pins D .next s') (E:=X.xe) rfl hs sc.clos sc.kind sc.names
  (thn (hi pins s σ H _ I h) fun v s1 h1=>thn h1 fun itv s2 h2=>?_)) (fun _ s' hq=>wpAny_pure (wpAny_pure hq)) fun _ _ e=>e)
 obtain ⟨it,fp,tn,J,H2,e,I2,T,st2,f2,q2⟩:=h2
 subst e
 refine Z5 (Q:=fun v H1=>D.nx (σ.set i (some v)) H1) (RR:=fun acc C=>compPost (model X.prog X.w) X.A X.xe (some (assign (.Name y py) X.env)) (fun _ s'=>SP X pins D .next s') acc C) hc sc I2 T st2 f2 hg ht he q2 ?_
 intro l C s' H' m I' n' c1 c2 c3 c4 c5 q'
 show wpAny _ X.A (assign (.Name y py) X.env (.ref l)) _ _ _
 refine wpAny_assign_Name (Q3 I' hN hy hl (v:=.ref l) rfl (fun s'' I'' k=>?_) hf)
 obtain ⟨a,sb,ha⟩:=k
 have hne:C≠a:=by
  rcases ha with ha | ha
  ·rw [ha];exact c1
  ·exact fun z=>c4 _ _ ha z.symm
 refine ⟨m,n'.sameBut sb hne,fun h' hs'=>?_⟩
 exact ⟨_,H',I''.turned (t':=s''.toks) (it:=C) (fun b o hb e=>(hs'.2 b hb).trans e) c2 c1 (.inr c3) c4 c5,q'⟩
end
end L2
namespace L2
open PySem PySem.Spec PyProof.Rows
theorem Inv.recast {X:Cx} {pins:List (Addr × Obj)} {σ:St} {H:Hp} {s:Shared} {d:Addr} {u u':HO} (I:Inv X pins σ H s) (e:H d=some u) (nt:∀xs,u≠.tup xs) (nb:∀ps,u≠.tbl ps) (no:∀x,u≠.own x)
  (hfz:∀o v,X.H₀ d≠some (.frz o v)) (ok:qi X.prog X.w (upd H d u') s.heap d u'):Inv X pins σ (upd H d u') s:=by
 have nn:∀b,H b=none→upd H d u' b=none:=fun b h=>by
  rw [zg (fun z=>by rw [z,e] at h;cases h)];exact h
 refine { I with base:=⟨I.base.keep,I.base.slot,fun b o q n hx=>nn b (I.base.free b o q n hx),I.base.there,fun b xs q=>?_,fun b o v q=>?_,fun b ps q=>?_⟩,free:=nn _ I.free,freeC:=fun x c q=>nn _ (I.freeC x c q),pin:=fun p hp=>?_,hok:=fun b v q=>?_ }
 ·have:=I.base.tups b xs q
  rw [zg (fun z=>by rw [z,e] at this;exact nt xs (ku this))];exact this
 ·have:=I.base.frzs b o v q
  rw [zg (fun z=>hfz o v (by rw [←z];exact q))];exact this
 ·obtain ⟨m,h⟩:=I.base.tbls b ps q
  exact ⟨m,by rw [zg (fun z=>by rw [z,e] at h;exact nb _ (ku h))];exact h⟩
 ·obtain ⟨a,b,c⟩:=I.pin p hp
  exact ⟨a,nn _ b,c⟩
 ·by_cases hb:b=d
  ·subst hb;rw [zb] at q;cases q;exact ok
  ·rw [zg hb] at q
   refine (I.hok b v q).stay (fun _ _ _ z=>z) (fun c z=>?_) fun c xs z=>?_
   ·rw [zg (fun y=>by rw [y,e] at z;exact no _ (ku z))];exact z
   ·rw [zg (fun y=>by rw [y,e] at z;exact nt _ (ku z))];exact z
theorem Inv.nofrz {X:Cx} {pins:List (Addr × Obj)} {σ:St} {H:Hp} {s:Shared} {d:Addr} {u:HO} (I:Inv X pins σ H s) (e:H d=some u) (nf:∀o v,u≠.frz o v):∀o v,X.H₀ d≠some (.frz o v):=fun o v q=>by
 have:=I.base.frzs d o v q
 rw [e] at this
 exact nf o v (ku this)
theorem Qk {k:Key} {u:Value} (h:z0v k u=true):RelV (kV k) u:=by
 rcases qh h with ⟨i,t,rfl,rfl⟩ | ⟨x,t,rfl,rfl⟩
 ·exact ⟨t,rfl⟩
 ·exact ⟨t,rfl⟩
theorem KV.get {kvs:List (Key × V)} {vs:List (Key × Value)} (r:KV kvs vs):∀{i:Nat} {p:Key × V},kvs[i]?=some p→∃v,vs[i]?=some (p.1,v)∧RelV p.2 v:=by
 unfold KV at r
 induction r with
 | nil=>intro i p h;simp at h
 | @cons p q ps qs h t ih=>
  intro i p' hp
  cases i with
  | zero=>
   simp at hp
   subst hp
   exact ⟨q.2,by rw [h.1];rfl,h.2⟩
  | succ i=>
   obtain ⟨v,h1,h2⟩:=ih (by simpa using hp)
   exact ⟨v,by simpa using h1,h2⟩
noncomputable def Itd (a:Addr) (o:Obj) (kvs:List (Key × V)):It:=
 ⟨fun i H=>H a=some (.frz o (.dK kvs))∧i < kvs.length,fun i H x H'=>∃p k v,x=.ref p∧H p=none∧kvs[i]?=some (k,v)∧H'=upd H p (.tup [kV k,v]),fun i H=>H a=some (.frz o (.dK kvs))∧kvs.length≤i⟩
theorem z3v:entryFor table "dict_itemiterator.__iter__"=some Builtin.«dict_keyiterator.__iter__»:=
 entryFor_alias (id':="dict_keyiterator.__iter__") (by rw [fastTable_eq_tree];kernel_rfl) (by kernel_rfl) (by kernel_rfl) (by rw [fastTable_eq_tree];kernel_rfl)
theorem jv {prog:Program} {w:World} {A:Around} {E:Value→Shared→Prop} {s:Shared} {it d:Addr} {i n ep:Nat} {ok ov:Value} {Q:Value→Shared→Prop} (he:IsItemIter s.heap it d i n ep ok ov) (h:Q (.ref it) s):
  wpAny (model prog w) A (pyIter (.ref it)) Q E s:=by
 have hT:s.TypeIs (.ref it) "dict_itemiterator":=⟨_,he,rfl⟩
 refine wpAny_pyIter_slot hT F.slot_dict_itemiterator_iter (wpAny_call_entry F.slot_dict_itemiterator_iter hT z3v ?_ (F.args_dict_itemiterator_iter_1 _))
 show wpAny _ _ (ret (.ref it)) _ _ s
 exact wpAny_pure ⟨_,rfl,"dict_itemiterator",_,hT,F.slot_dict_itemiterator_next.lookup,h⟩
theorem z1t {P:Program} {w:World} {K:ko} {elts:List Expr} {x1} {pos:Pos} (a it:Addr) (o:Obj) (kvs:List (Key × V)):
  Turn P w K (.Tuple elts x1 pos) (Itd a o kvs) [it] it (fun i h=>∃es ep ok ov,o.data=.dict es ep∧IsItemIter h it a i kvs.length ep ok ov) where
 mem:=by simp
 obj:=fun i h st b hb=>by
  have z:b=it:=by simpa using hb
  subst z
  obtain ⟨es,ep,ok,ov,_,q⟩:=st
  exact ⟨_,q,fun v y=>by cases y⟩
 keep:=fun i h h' st k=>let ⟨es,ep,ok,ov,d,q⟩:=st;⟨es,ep,ok,ov,d,k it (by simp) _ q⟩
 item:=by
  intro X hP hw hK hc i pins s σ H E I hf st hg
  subst hP hw hK
  obtain ⟨hq,hi⟩:=hg
  obtain ⟨es,ep,ok,ov,hd,hit⟩:=st
  obtain ⟨ho,hz,hsy,vs,rel,ob,es',ep',hob,hex,hdat,r3⟩:=(show qi X.prog X.w H s.heap a (.frz o (.dK kvs)) from I.hok a _ hq)
  rw [ho] at hob
  cases hob
  rw [hd] at hdat
  cases hdat
  have hm:s.heap.DictAt (zI X.prog X.w) a vs ep:=⟨o,es,ho,hex,hd,r3⟩
  have hlen:kvs.length=vs.length:=Paired.length rel
  obtain ⟨p,hp⟩:∃p,kvs[i]?=some p:=⟨kvs[i],kH hi⟩
  obtain ⟨v,hv,rv⟩:=rel.get hp
  have fi:=hf it (by simp)
  rw [hlen] at hit
  refine wpAny_pyNext_items_item hit hm hv fun key h' hkey heo ht hsz hk=>⟨_,rfl,?_⟩
  have rk:RelV (kV p.1) key:=Qk hkey
  have new:qi X.prog X.w (upd H s.heap.objs.size (.tup [kV p.1,p.2])) h' s.heap.objs.size (.tup [kV p.1,p.2]):=⟨by show 2≤sizeLine;decide,[key,v],.cons rk (.cons rv .nil),_,ht,rfl,_,rfl⟩
  have I1:Inv X pins σ (upd H s.heap.objs.size (.tup [kV p.1,p.2])) { s with heap:=h',toks:=s.toks }:=I.turned2 (e:=it) (it:=it) (t':=s.toks) (fun b o hb _ e=>hk b o hb e) (fun b hb=>by
   have z:b=it:=by simpa using hb
   subst z;exact ⟨_,heo⟩) fi fi new
  have ne1:it≠s.heap.objs.size:=Nat.ne_of_lt (Heap.lt_size hit)
  refine wpAny_letOwnedTupleGo_items (s:={ s with heap:=h' }) heo fun h2 he2 hs2=>?_
  refine ⟨.ref s.heap.objs.size,_,I1.turned (t':=s.toks) (it:=it) (fun b o hb q=>(hs2.2 b hb).trans q) (by rw [zg ne1];exact fi.1) fi.2.1 fi.2.2.2.1 fi.2.2.2.2.1 fi.2.2.2.2.2,rfl,⟨_,p.1,p.2,rfl,I.fresh,hp,rfl⟩,⟨es,ep,key,v,hd,by rw [hlen];exact he2⟩,fun b hb=>?_⟩
  have z:b=it:=by simpa using hb
  subst z;rw [zg ne1];exact fi.1
 done:=by
  intro X hP hw hK hc i pins s σ H E I hf st hg
  subst hP hw hK
  obtain ⟨hq,hi⟩:=hg
  obtain ⟨es,ep,ok,ov,hd,hit⟩:=st
  obtain ⟨ho,hz,hsy,vs,rel,ob,es',ep',hob,hex,hdat,r3⟩:=(show qi X.prog X.w H s.heap a (.frz o (.dK kvs)) from I.hok a _ hq)
  rw [ho] at hob
  cases hob
  rw [hd] at hdat
  cases hdat
  have hm:s.heap.DictAt (zI X.prog X.w) a vs ep:=⟨o,es,ho,hex,hd,r3⟩
  have hlen:kvs.length=vs.length:=Paired.length rel
  rw [hlen] at hit hi
  obtain ⟨f0,f1,f2,f3,f4,f5⟩:=hf it (by simp)
  exact wpAny_pyNext_items_end (I.ok.hd hc) hit hm (by rw [List.getElem?_eq_none_iff];exact hi) fun h' eb=>⟨rfl,I.turned (t':=s.toks) (fun b o hb e=>eb b o hb e) f0 f1 f3 f4 f5⟩
 self:=fun _ _ _ _ _ st h=>let ⟨es,ep,ok,ov,_,q⟩:=st;jv q h
section
variable {X:Cx}
def z6G (nt:Nat) (ix:List Nat) (td:TE) (g:TG) (tc:TT) (te:TE):TE:=fun σ H Q=>td σ H fun x H1=>∃a kvs,x=.ref a∧H1 a=some (.dK kvs)∧∀o l,H1 l=none→∃W:Nat→Nat→List V→St→Hp→Prop,(∃m,W 0 m [] (qt nt ix σ) (upd (upd H1 a (.frz o (.dK kvs))) l (.lst [])))∧∀i m ys σ' H2,W i m ys σ' H2→
 H2 a=some (.frz o (.dK kvs))∧(kvs.length≤i→Q (.ref l) (upd H2 a (.dK kvs)))∧(∀p k v,kvs[i]?=some (k,v)→H2 p=none→g (.ref p) σ' (upd H2 p (.tup [kV k,v])) fun σ2 H4=>tc σ2 H4 fun b H5=>if b=true then te σ2 H5 fun v H6=>H6 l=some (.lst ys)∧ys.length < sizeLine∧∃m',m' < m∧W (i+1) m' (ys++[v]) σ2 (upd H6 l (.lst (ys++[v])))
  else ∃m',m' < m∧W (i+1) m' ys σ2 H5)
theorem z4f {elt o:Expr} {elts:List Expr} {x1} {tp apos cpos:Pos} {ifs:List Expr} {N:List Str} {nt:Nat} {ix:List Nat} {scope:Scope} {cl:List (Str × Addr)} {pos:Pos} {td:TE} {g:TG} {tc:TT} {te:TE} (hc:X.calm=true) (sc:qf X N nt ix scope cl) (ho:PE X o td)
  (hg:∀(s:Shared) (H:Hp) (fp:List Addr) (C:Addr),PG (zo X N scope cl s H fp C) (.Tuple elts x1 tp) g)
  (ht:∀(s:Shared) (H:Hp) (fp:List Addr) (C:Addr),PTs (zo X N scope cl s H fp C) ifs tc)
  (he:∀(s:Shared) (H:Hp) (fp:List Addr) (C:Addr),PE (zo X N scope cl s H fp C) elt te) (hs:∀x,foldedSetIterable (.Call (.Attribute o "items" apos) [] [] cpos) X.env x=pure x:=by intro _;rfl)
  (hbase:autoParam (attributeBase o "items" X.env (eval o X.env)=eval o X.env) aR._auto_1) (hline:autoParam ((apos.endLine == cpos.line)=true) aR._auto_1):
  PE X (.ListComp elt [⟨.Tuple elts x1 tp,.Call (.Attribute o "items" apos) [] [] cpos,ifs,0⟩] scope pos) (z6G nt ix td g tc te):=by
 intro pins s σ H Q I h
 rw [eval_ListComp]
 refine wpAny_comprehension_free (use:=none) rfl hs sc.clos sc.kind sc.names ?_
 refine wpAny_Call_method0_late hbase hline (thn (ho pins s σ H _ I h) fun v s1 zz=>?_)
 obtain ⟨x,H1,I1,r1,a,kvs,ex,ha,q1⟩:=zz
 subst ex
 cases r1
 obtain ⟨hz,hsy,vs,rel,dd⟩:=z21 I1.hok ha
 obtain ⟨ob,es,ep,hob,hex,hdat,r3⟩:=id dd
 have hlen:kvs.length=vs.length:=Paired.length rel
 refine ⟨"dict",_,F.plainAttrs_dict,F.slot_dict_items,F.type_dict_items,⟨ob,hob,hex.1⟩,fun b z=>(by cases z;exact ⟨ob,hob,hex.2.1⟩),Calls.callWith_builtin rfl (PySem.evalArgs_none ?_)⟩
 refine call_meetsIn F.slot_dict_items dd.typeIs F.entry_dict_items (F.args_dict_items_1 _) (meets_dict_items (zI X.prog X.w) a hsy) ⟨⟨vs,dd⟩,?_⟩
 have k2:∀b o,s1.heap.get? b=some o→(s1.heap.push { cls:=.type "dict_items",data:=.fields #[.ref a] }).get? b=some o:=fun b o e=>Heap.get?_push_of_some _ e
 have I2:Inv X pins σ H1 { s1 with heap:=s1.heap.push { cls:=.type "dict_items",data:=.fields #[.ref a] } }:=I1.kept (t':=s1.toks) k2
 have hm:(s1.heap.push { cls:=.type "dict_items",data:=.fields #[.ref a] }).DictAt (zI X.prog X.w) a vs ep:=⟨ob,es,k2 _ _ hob,hex,hdat,r3⟩
 generalize hs2:({ s1 with heap:=s1.heap.push { cls:=.type "dict_items",data:=.fields #[.ref a] } }:Shared)=s2 at *
 have hm2:s2.heap.DictAt (zI X.prog X.w) a vs ep:=by rw [←hs2];exact hm
 have hview:s2.heap.IsItemsView s1.heap.objs.size a:=⟨_,by rw [←hs2];exact Heap.get?_push_size _ rfl,rfl,rfl⟩
 refine wpAny_pyIter_items hview hm2 ?_
 have k3:∀b o,s2.heap.get? b=some o→(s2.heap.push { cls:=.type "dict_itemiterator",data:=.fields #[.none,.bool false,.ref a,.int 0 0,.int vs.length 0,.int ep 0,.none,.none] }).get? b=some o:=fun b o e=>Heap.get?_push_of_some _ e
 have I3:Inv X pins σ H1 { s2 with heap:=s2.heap.push { cls:=.type "dict_itemiterator",data:=.fields #[.none,.bool false,.ref a,.int 0 0,.int vs.length 0,.int ep 0,.none,.none] } }:=I2.kept (t':=s2.toks) k3
 have hob3:(s2.heap.push { cls:=.type "dict_itemiterator",data:=.fields #[.none,.bool false,.ref a,.int 0 0,.int vs.length 0,.int ep 0,.none,.none] }).get? a=some ob:=k3 _ _ (by rw [←hs2];exact k2 _ _ hob)
 have nf:=I3.nofrz ha (fun _ _=>nofun)
 have I4:=I3.recast (u':=.frz ob (.dK kvs)) ha (fun _=>nofun) (fun _=>nofun) (fun _=>nofun) nf ⟨hob3,hz,hsy,vs,rel,ob,es,ep,hob3,hex,hdat,r3⟩
 have itn:H1 s2.heap.objs.size=none:=I2.fresh
 have nea:s2.heap.objs.size≠a:=(zc ha itn).symm
 refine Z5 (Q:=fun v H'=>H' a=some (.frz ob (.dK kvs))∧Q v (upd H' a (.dK kvs))) (RR:=fun acc C=>compPost (model X.prog X.w) X.A X.xe none (EP X pins σ Q) acc C) hc sc I4 (z1t a s2.heap.objs.size ob kvs) ⟨es,ep,.none,.none,hdat,by rw [hlen];exact Heap.get?_push_size _ rfl⟩ (fun b hb=>?_) hg ht he (fun l hl=>?_) ?_
 ·have z:b=s2.heap.objs.size:=by simpa using hb
  subst z
  exact I2.fpOk (kc _) (by rw [zg nea];exact itn)
 ·have hl1:H1 l=none:=by
   cases q:H1 l with
   | none=>rfl
   | some u=>
    by_cases z:l=a
    ·subst z;rw [zb] at hl;cases hl
    ·rw [zg z,q] at hl;cases hl
  obtain ⟨W,w0,turn⟩:=q1 ob l hl1
  refine ⟨W,w0,fun i m ys σ' H2 hW=>?_⟩
  obtain ⟨t1,t2,t3⟩:=turn i m ys σ' H2 hW
  by_cases hlt:i < kvs.length
  ·refine .inr ⟨⟨t1,hlt⟩,fun x H3 y=>?_⟩
   obtain ⟨p,k,v,rfl,hp,hkv,rfl⟩:=y
   exact t3 p k v hkv hp
  ·exact .inl ⟨⟨t1,by lia⟩,t1,t2 (by lia)⟩
 ·intro D C s' H' m I' n' c1 c2 c3 c4 c5 q'
  obtain ⟨q5,q6⟩:=q'
  refine ⟨m,n',fun h' hs'=>?_⟩
  have I5:=I'.turned (t':=s'.toks) (it:=C) (h':=h') (fun b o hb e=>(hs'.2 b hb).trans e) c2 c1 (.inr c3) c4 c5
  obtain ⟨hob5,ok5⟩:=(show qi X.prog X.w H' h' a (.frz ob (.dK kvs)) from I5.hok a _ q5)
  obtain ⟨z1,z2,vs',rel',dd'⟩:=(show qi X.prog X.w H' h' a (.dK kvs) from ok5)
  exact ⟨.ref D,_,I5.recast (u':=.dK kvs) q5 (fun _=>nofun) (fun _=>nofun) (fun _=>nofun) nf ⟨z1,z2,vs',rel',dd'⟩,rfl,q6⟩
def z6C (tab:List (Str × V)) (ty tx:TE):TE:=fun σ H Q=>ty σ H fun y H1=>tx σ H1 fun z H2=>∃x,y=.str x∧Q ((tab.lookup x).getD z) H2
theorem ZW {nm:Str} {e f:Expr} {p apos cpos:Pos} {d:Addr} {tab:List (Str × V)} {ty tx:TE} (T:KTab X.w.params X.K d tab) (hg:Gl X nm) (hm:X.mg nm=some (.ref d)) (he:PE X e ty) (hf:PE X f tx) (m:M2 X (.Name nm p) "get" apos e f cpos) (hd:autoParam ((nm == ("__debug__":Str))=false) aR._auto_2):
  PE X (.Call (.Attribute (.Name nm p) "get" apos) [e,f] [] cpos) (z6C tab ty tx):=by
 intro pins s σ H Q I h
 refine wpAny_Call_method m.base m.few m.line PySem.F.plainAttrs_dict PySem.F.slot_dict_get PySem.F.type_dict_get (Qi I hg hm ?_ hd)
 obtain ⟨es,n,hl,hk,hsy,hp⟩:=id T
 have ho:=I.kIn d _ hl
 refine ⟨⟨_,ho,rfl⟩,fun b z=>(by cases z;exact ⟨_,ho,rfl⟩),?_⟩
 rw [m.trees]
 refine Calls.callWith_builtin rfl (Calls.evalArgs_plain (Calls.spliced_cons (thn (he pins s σ H _ I h) fun iv s2 ⟨y,H2,I2,ry,q2⟩=>
  Calls.spliced_cons (thn (hf pins s2 σ H2 _ I2 q2) fun fv s3 ⟨z,H3,I3,rz,x,ex,q3⟩=>Calls.spliced_nil ?_))))
 subst ex
 obtain ⟨t,rfl⟩:=ry
 obtain ⟨fm,mo,_,hf⟩:=J6 (prog:=X.prog) (w:=X.w) rfl T I3.kIn
 refine call_meetsIn PySem.F.slot_dict_get mo.typeIs PySem.F.entry_dict_get (PySem.F.args_dict_get_3 _ _ _) (meets_dict_get_default (strKind X.prog X.w) d (strKind_is X.prog X.w x t) hsy fv) ⟨_,mo,_,H3,I3.tok _,(hf x).getD rz,q3⟩
end
end L2
theorem zU0 {C:List PySem.Value→Prop} (h:C []):∀us:List PySem.Value,us.length=0→C us:=by
 intro us hl
 cases us with
 | nil=>exact h
 | cons a t=>exact absurd hl (Nat.succ_ne_zero _)
theorem zU1 {C:List PySem.Value→Prop} (h:∀a,C [a]):∀us:List PySem.Value,us.length=1→C us:=by
 intro us hl
 cases us with
 | nil=>exact absurd hl.symm (Nat.succ_ne_zero _)
 | cons a t=>exact zU0 (C:=fun t=>C (a :: t)) (h a) t (Nat.succ.inj hl)
theorem zU2 {C:List PySem.Value→Prop} (h:∀a b,C [a,b]):∀us:List PySem.Value,us.length=2→C us:=by
 intro us hl
 cases us with
 | nil=>exact absurd hl.symm (Nat.succ_ne_zero _)
 | cons a t=>exact zU1 (C:=fun t=>C (a :: t)) (h a) t (Nat.succ.inj hl)
theorem zU3 {C:List PySem.Value→Prop} (h:∀a b c,C [a,b,c]):∀us:List PySem.Value,us.length=3→C us:=by
 intro us hl
 cases us with
 | nil=>exact absurd hl.symm (Nat.succ_ne_zero _)
 | cons a t=>exact zU2 (C:=fun t=>C (a :: t)) (h a) t (Nat.succ.inj hl)
theorem zU4 {C:List PySem.Value→Prop} (h:∀a b c d,C [a,b,c,d]):∀us:List PySem.Value,us.length=4→C us:=by
 intro us hl
 cases us with
 | nil=>exact absurd hl.symm (Nat.succ_ne_zero _)
 | cons a t=>exact zU3 (C:=fun t=>C (a :: t)) (h a) t (Nat.succ.inj hl)
theorem zU5 {C:List PySem.Value→Prop} (h:∀a b c d e,C [a,b,c,d,e]):∀us:List PySem.Value,us.length=5→C us:=by
 intro us hl
 cases us with
 | nil=>exact absurd hl.symm (Nat.succ_ne_zero _)
 | cons a t=>exact zU4 (C:=fun t=>C (a :: t)) (h a) t (Nat.succ.inj hl)
namespace My
open PySem PySem.Spec PyProof.Rows L2
variable {P:Program} {w:World} {K:ko} {mg:Str→Option Value} {base:Heap}
theorem fsM {N P:List Str} {sc:Scope} (a:autoParam (sc.kind=.function) aR._auto_1) (b:autoParam (sc.isCoroutine=false) aR._auto_1) (c:autoParam (sc.isGenerator=false) aR._auto_1) (d:N.Nodup:=by trivial) (e:autoParam (N.take P.length=P) aR._auto_1)
  (f:∀x∈P,sc.names.lookup x=some .local∨sc.names.lookup x=some .cell:=by trivial) (g:∀y∈sc.names,y.2≠.free:=by trivial):zn N P sc:=⟨a,b,c,d,e,f,g⟩
theorem jV {X:Cx} {o e:Expr} {es:List Expr} {to:TE} {t:TA} {apos cpos:Pos} (ho:PE X o to) (ha:PA X (e :: es) t) (hbase:autoParam (attributeBase o "append" X.env (eval o X.env)=eval o X.env) aR._auto_1)
  (hfew:autoParam (((backTo cpos (starEach (e :: es) X.env)).all (fun x=> !x.1)&&(backToKw cpos (keywordEach [] X.env)).all (fun x=>x.1.isSome)&&decide ((e :: es).length+([]:List Keyword).length+(if ([]:List Keyword).isEmpty then 0 else 1) < 30))=true) aR._auto_1)
  (hline:autoParam ((apos.endLine == cpos.line)=true) aR._auto_1) (hs:autoParam (starEach (e :: es) X.env=(false,eval e X.env) :: starEach es X.env) aR._auto_1) (hplain:autoParam ((backTo cpos (starEach es X.env)).any (·.1)=false) aR._auto_1):PE X (.Call (.Attribute o "append" apos) (e :: es) [] cpos) (tBM X.K "list" z0o to t):=z5L PySem.F.plainAttrs_list PySem.F.slot_list_append PySem.F.type_list_append z30 ho ha hbase hfew hline hs hplain
theorem z6X {X:Cx} {o:Expr} {to:TE} {apos cpos:Pos} (ho:PE X o to) (hbase:autoParam (attributeBase o "pop" X.env (eval o X.env)=eval o X.env) aR._auto_1) (hline:autoParam ((apos.endLine == cpos.line)=true) aR._auto_1):PE X (.Call (.Attribute o "pop" apos) [] [] cpos) (tBM0 X.K "list" rPop to):=z0Z PySem.F.plainAttrs_list PySem.F.slot_list_pop PySem.F.type_list_pop z76 ho hbase hline
noncomputable def top (i:Nat):Stmt:=PySem.Challenge.pw_codemill_k31_whole_must.main.body.getD i (.Pass ⟨0,0,0,0⟩)
def FN (P:Program) (w:World) (K:ko) (mg:Str→Option Value) (base:Heap) (k:Nat) (name:Str) (ps:List Str) (sp:Sp):Prop:=
 ∃f fd,mg name=some (.ref f)∧PySem.W.keepIn K (.ref f)=true∧Qu K fd ps []∧FnOk P w K mg base CX0 k f fd ps sp
def zi (K:ko) (mg:Str→Option Value) (name:Str) (st:Stmt):Prop:=∃f fd,Fun K name name st f fd∧mg name=some (.ref f)
section
theorem FN.mono {j k:Nat} {name:Str} {ps:List Str} {sp:Sp} (F:FN P w K mg base j name ps sp) (h:j≤k):FN P w K mg base k name ps sp:=by
 obtain ⟨f,fd,a,b,c,d⟩:=F
 exact ⟨f,fd,a,b,c,d.mono h⟩
theorem FN.imp {k:Nat} {name:Str} {ps:List Str} {sp sp':Sp} (F:FN P w K mg base k name ps sp) (h:∀vs H Q E,sp' vs H Q E→sp vs H Q E):FN P w K mg base k name ps sp':=by
 obtain ⟨f,fd,a,b,c,d⟩:=F
 exact ⟨f,fd,a,b,c,d.imp h⟩
theorem FN.of {name:Str} {st:Stmt} {N ps:List Str} {sp:Sp} {k:Nat} (D:zi K mg name st) (S:zn N ps (ze st))
  (hb:∀(kV doc pm:Value) (an:Option Addr) (cdv ct:Value) (us:List Value),us.length=ps.length→bindArgs (PySem.W.fnOf name name (qB st) (zW st) (ze st) .none kV doc pm an cdv ct) ⟨us,[]⟩=pure (ps.zip us))
  (len:∀vs H Q E,sp vs H Q E→vs.length=ps.length)
  (hbody:∀(f:Addr) (cdv:Value) (A:Around) (outer:List Env) (s:Shared) (H:Hp) (vs:List V) (Q:VK) (E:XK),Room k (A.deeper (envOfC name (ze st) s.heap.objs.size f cdv))→sp vs H Q E→
   ∃t,PSs (cxOf CX0 P w K mg base N name (ze st) f cdv A outer s H E).nox (zW st) t∧t { nx:=fun _ H'=>Q .non H',rt:=Q } (Z0 N vs) H):FN P w K mg base (k+1) name ps sp:=by
 obtain ⟨f,fd,F,m⟩:=D
 exact ⟨f,fd,m,F.kp,F.binds hb,F.ok S len (hbody f)⟩
theorem FN.o {name:Str} {st:Stmt} {N ps:List Str} {sp:Sp} {k:Nat} (D:zi K mg name st) (S:zn N ps (ze st))
  (hbody:∀(f:Addr) (cdv:Value) (A:Around) (outer:List Env) (s:Shared) (H:Hp) (vs:List V) (Q:VK) (E:XK),Room k (A.deeper (envOfC name (ze st) s.heap.objs.size f cdv))→sp vs H Q E→
   ∃t,PSs (cxOf CX0 P w K mg base N name (ze st) f cdv A outer s H E).nox (zW st) t∧t { nx:=fun _ H'=>Q .non H',rt:=Q } (Z0 N vs) H)
  (hb:∀(kV doc pm:Value) (an:Option Addr) (cdv ct:Value) (us:List Value),us.length=ps.length→bindArgs (PySem.W.fnOf name name (qB st) (zW st) (ze st) .none kV doc pm an cdv ct) ⟨us,[]⟩=pure (ps.zip us):=by (first | exact fun _ _ _ _ _ _=>zU1 fun _=>rfl | exact fun _ _ _ _ _ _=>zU2 fun _ _=>rfl | exact fun _ _ _ _ _ _=>zU3 fun _ _ _=>rfl | exact fun _ _ _ _ _ _=>zU4 fun _ _ _ _=>rfl | exact fun _ _ _ _ _ _=>zU5 fun _ _ _ _ _=>rfl))
  (len:∀vs H Q E,sp vs H Q E→vs.length=ps.length:=by (intro vs H Q E h;repeat (first | (obtain ⟨e,_⟩:=h;subst e;rfl) | (obtain ⟨_,h⟩:=h)))):FN P w K mg base (k+1) name ps sp:=FN.of D S hb len hbody
end
section
variable {X:Cx} {k:Nat} {name:Str} {ps:List Str} {sp:Sp} {p pos:Pos} {e:Expr} {es:List Expr} {t:TA}
theorem zp (F:FN X.prog X.w X.K X.mg X.base k name ps sp) (hr:Room k X.A) (hg:Gl X name) (ha:PA X (e :: es) t) (hdb:autoParam ((name == ("__debug__":Str))=false) aR._auto_2)
  (he:autoParam (starEach (e :: es) X.env=(false,eval e X.env) :: starEach es X.env) aR._auto_1) (hpl:autoParam ((backTo pos (starEach es X.env)).any (·.1)=false) aR._auto_1):
  PE X (.Call (.Name name p) (e :: es) [] pos) (z2n sp [] E0 t):=by
 obtain ⟨f,fd,a,b,c,d⟩:=F
 exact z2T d hr hg a b c .nil z5N ha hdb he hpl
end
inductive Scal:V→Prop where
 | non:Scal .non
 | bl (b:Bool):Scal (.bl b)
 | int (i:Int):Scal (.int i)
 | str (s:Str) (h:s.length≤sizeLine):Scal (.str s)
noncomputable def z3a:V→Bool
 | .int _=>true
 | _=>false
noncomputable def isB:V→Bool
 | .bl _=>true
 | _=>false
noncomputable def isS:V→Bool
 | .str _=>true
 | _=>false
noncomputable def qJ (x:V) (lo hi:Int):Bool:=match x with
 | .int i=>decide (lo≤i)&&decide (i≤hi)
 | _=>false
noncomputable def jE (x:V) (most:Int):Bool:=match x with
 | .str s=>decide ((1:Int)≤(s.length:Int))&&decide ((s.length:Int)≤most)&&Txt.isascii s&&Txt.isalpha s
 | _=>false
noncomputable def low:V→Bool
 | .str s=>Txt.islower s
 | _=>false
noncomputable def z4m (x:V):Bool:=jE x 4&&low x
noncomputable def z4t (x:V):Bool:=jE x 8
noncomputable def z4p (x:V):Bool:=qJ x 0 99
noncomputable def z2f (x:V) (most:Int):Bool:=decide (x=.non)||isB x||qJ x (-most) most||z4t x
noncomputable def jw (x:V):Bool:=z2f x 1000000000
noncomputable def Jf (x:V):Bool:=qJ x 1 9
noncomputable def ZR (x:V):Bool:=qJ x 2 9
noncomputable def z4j (x:V):Bool:=decide (x=.non)
noncomputable def Zx:List (Str × Str):=[("push","value"),("load","name"),("quick","name"),("store","name"),("clear","name"),("copy","copied"),("swap","swapped"),("jump","mark"),("iftrue","mark"),("iffalse","mark"),("ortrue","mark"),("orfalse","mark"),("try","mark"),("label","mark"),("add","none"),("sub","none"),("mul","none"),("div","none"),("rest","none"),("less","none"),("same","none"),("neg","none"),("not","none"),("drop","none"),("tell","none"),("return","none"),("raise","none"),("endtry","none")]
noncomputable def zZ (op:Str):Option Str:=Zx.lookup op
noncomputable def j6 (sort:Str) (x:V):Bool:=
 if sort="value" then jw x else if sort="name" then z4m x else if sort="copied" then Jf x else if sort="swapped" then ZR x else if sort="mark" then z4p x else z4j x
noncomputable def ZE (op:Str) (x:V):Bool:=match zZ op with
 | some s=>j6 s x
 | none=>false
noncomputable def rowV (op:Str) (arg line:V):Bool:=(zZ op).isSome&&ZE op arg&&qJ line 0 9999
structure Glo (mg:Str→Option Value):Prop where
 isinstance:mg "isinstance"=none
 int:mg "int"=none
 bool:mg "bool"=none
 str:mg "str"=none
 tuple:mg "tuple"=none
 list:mg "list"=none
 len:mg "len"=none
 range:mg "range"=none
 enumerate:mg "enumerate"=none
 rows:∃u,mg "MOST_ROWS"=some u∧RelV (.int 150) u
 line:∃u,mg "MOST_LINE"=some u∧RelV (.int 9999) u
 mark:∃u,mg "MOST_MARK"=some u∧RelV (.int 99) u
 pushed:∃u,mg "MOST_PUSHED"=some u∧RelV (.int 1000000000) u
 name:∃u,mg "LONGEST_NAME"=some u∧RelV (.int 4) u
 kind:∃u,mg "LONGEST_KIND"=some u∧RelV (.int 8) u
 all:mg "all"=none
 max:mg "max"=none
 min:mg "min"=none
 sorted:mg "sorted"=none
 zip:mg "zip"=none
theorem zF:bootBuiltins "isinstance"=some (.builtin "isinstance"):=by trivial
theorem z1m:bootBuiltins "int"=some (.type "int"):=by trivial
theorem Qo:bootBuiltins "bool"=some (.type "bool"):=by trivial
theorem z1l:bootBuiltins "str"=some (.type "str"):=by trivial
theorem z26:bootBuiltins "tuple"=some (.type "tuple"):=by trivial
theorem Zs:bootBuiltins "list"=some (.type "list"):=by trivial
theorem zS:bootBuiltins "len"=some (.builtin "len"):=by trivial
theorem z1b {K:ko} {H:Hp} {x:V} (h:Scal x):∃t,TyOf K H x t∧PySem.W.kitOne K t (.type "int")=some (z3a x||isB x):=by
 cases h with
 | non=>exact ⟨_,.non,rfl⟩
 | bl b=>exact ⟨_,.bl b,rfl⟩
 | int i=>exact ⟨_,.int i,rfl⟩
 | str s _=>exact ⟨_,.str s,rfl⟩
theorem Qm {K:ko} {H:Hp} {x:V} (h:Scal x):∃t,TyOf K H x t∧PySem.W.kitOne K t (.type "bool")=some (isB x):=by
 cases h with
 | non=>exact ⟨_,.non,rfl⟩
 | bl b=>exact ⟨_,.bl b,rfl⟩
 | int i=>exact ⟨_,.int i,rfl⟩
 | str s _=>exact ⟨_,.str s,rfl⟩
theorem z1a {K:ko} {H:Hp} {x:V} (h:Scal x):∃t,TyOf K H x t∧PySem.W.kitOne K t (.type "str")=some (isS x):=by
 cases h with
 | non=>exact ⟨_,.non,rfl⟩
 | bl b=>exact ⟨_,.bl b,rfl⟩
 | int i=>exact ⟨_,.int i,rfl⟩
 | str s _=>exact ⟨_,.str s,rfl⟩
theorem z1P {K:ko} {H:Hp} {x:V} (h:Scal x):∃t,TyOf K H x t∧PySem.W.kitOne K t (.type "tuple")=some false:=by
 cases h with
 | non=>exact ⟨_,.non,rfl⟩
 | bl b=>exact ⟨_,.bl b,rfl⟩
 | int i=>exact ⟨_,.int i,rfl⟩
 | str s _=>exact ⟨_,.str s,rfl⟩
section
variable {X:Cx}
theorem Qa (T:String) {x:Str} {pos:Pos} (hg:Gl X x) (hm:X.mg x=none) (hv:bootBuiltins x=some (.type T)) (hn:autoParam (x≠"__name__") aR._auto_2) (hd:autoParam ((x == ("__debug__":Str))=false) aR._auto_2):PE X (.Name x pos) (tC (.ty T)):=z5M hg hm hv rfl hn hd
theorem jL {x:Str} {v:V} {pos:Pos} (hg:Gl X x) (hm:∃u,X.mg x=some u∧RelV v u) (hd:autoParam ((x == ("__debug__":Str))=false) aR._auto_2):PE X (.Name x pos) (tC v):=by
 obtain ⟨u,h1,h2⟩:=hm
 exact Z3 hg h1 h2 hd
end
section
def sp1 (f:V→Bool):Sp:=fun vs H Q _=>∃x,vs=[x]∧Scal x∧Q (.bl (f x)) H
theorem z7N {f:V→Bool} (vs:List V) (H:Hp) (Q:VK) (E:XK) (h:sp1 f vs H Q E):vs.length=1:=by
 obtain ⟨x,rfl,_⟩:=h
 rfl
theorem sc12:zn ["thing"] ["thing"] (ze (top 12)):=fsM
theorem JU (D:zi K mg "is_number" (top 12)) (G:Glo mg):FN P w K mg base 1 "is_number" ["thing"] (sp1 z3a):=by
 refine FN.o D sc12 fun f cdv A outer s H vs Q E hr h=>?_
 obtain ⟨x,rfl,hx,q⟩:=h
 refine ⟨_,zf (zv (jh (zw qb rfl G.isinstance zF (z6 (pv 0) (z6 (Qa "int" rfl G.int z1m) z7)))
  (jg (z5d (zw qb rfl G.isinstance zF (z6 (pv 0) (z6 (Qa "bool" rfl G.bool Qo) z7))))))),?_⟩
 obtain ⟨t1,ty1,k1⟩:=z1b (K:=K) (H:=H) hx
 obtain ⟨t2,ty2,k2⟩:=Qm (K:=K) (H:=H) hx
 refine ⟨_,rfl,_,"int",t1,_,rfl,ty1,k1,_,rfl,?_⟩
 cases hx with
 | non=>exact q
 | bl b=>exact ⟨_,rfl,_,"bool",t2,_,rfl,ty2,k2,_,rfl,q⟩
 | int i=>exact ⟨_,rfl,_,"bool",t2,_,rfl,ty2,k2,_,rfl,q⟩
 | str s _=>exact q
def jI:Sp:=fun vs H Q _=>∃x lo hi,vs=[x,.int lo,.int hi]∧Scal x∧Q (.bl (qJ x lo hi)) H
theorem sc13:zn ["thing","low","high"] ["thing","low","high"] (ze (top 13)):=fsM
theorem z3k (D:zi K mg "is_number_within" (top 13)) (G:Glo mg) (F1:FN P w K mg base 1 "is_number" ["thing"] (sp1 z3a)):FN P w K mg base 2 "is_number_within" ["thing","low","high"] jI:=by
 refine FN.o D sc13 fun f cdv A outer s H vs Q E hr h=>?_
 obtain ⟨x,lo,hi,rfl,hx,q⟩:=h
 refine ⟨_,zf (zv (jh (zp F1 hr rfl (z6 (pv 0) z7)) (jg (QX z1D z1D (pv 1) (pv 0) (pv 2))))),?_⟩
 refine ⟨_,rfl,x,rfl,hx,_,rfl,?_⟩
 cases hx with
 | non=>exact q
 | bl b=>exact q
 | str s _=>exact q
 | int i=>
  refine ⟨_,rfl,_,rfl,_,_,rfl,rfl,_,rfl,?_⟩
  have q':Q (.bl (decide (lo≤i)&&decide (i≤hi))) H:=q
  refine ite2 (fun c=>?_) (fun c=>?_)
  ·rw [c,Bool.true_and] at q'
   exact ⟨_,rfl,_,_,rfl,rfl,q'⟩
  ·rw [Bool.eq_false_iff.mpr c,Bool.false_and] at q'
   exact q'
def Q4:Sp:=fun vs H Q _=>∃x most,vs=[x,.int most]∧Scal x∧Q (.bl (jE x most)) H
theorem sc14:zn ["thing","most"] ["thing","most"] (ze (top 14)):=fsM
theorem z1W (D:zi K mg "is_letters" (top 14)) (G:Glo mg):FN P w K mg base 1 "is_letters" ["thing","most"] Q4:=by
 refine FN.o D sc14 fun f cdv A outer s H vs Q E hr h=>?_
 obtain ⟨x,most,rfl,hx,q⟩:=h
 refine ⟨_,zf (zv (jh (zw qb rfl G.isinstance zF (z6 (pv 0) (z6 (Qa "str" rfl G.str z1l) z7)))
  (jh (QX z1D z1D zh (zw z05 rfl G.len zS (z6 (pv 0) z7)) (pv 1))
  (jh (z0Z F.plainAttrs_str F.slot_str_isascii F.type_str_isascii z1G (pv 0))
  (jg (z0Z F.plainAttrs_str F.slot_str_isalpha F.type_str_isalpha z1H (pv 0))))))),?_⟩
 obtain ⟨t1,ty1,k1⟩:=z1a (K:=K) (H:=H) hx
 refine ⟨_,rfl,_,"str",t1,_,rfl,ty1,k1,_,rfl,?_⟩
 cases hx with
 | non=>exact q
 | bl b=>exact q
 | int i=>exact q
 | str z hz=>
  have q':Q (.bl (decide ((1:Int)≤(z.length:Int))&&decide ((z.length:Int)≤most)&&Txt.isascii z&&Txt.isalpha z)) H:=q
  refine ⟨_,rfl,z,rfl,hz,_,_,rfl,rfl,_,rfl,?_⟩
  refine ite2 (fun c=>?_) (fun c=>?_)
  ·rw [c,Bool.true_and] at q'
   refine ⟨_,rfl,_,_,rfl,rfl,_,rfl,?_⟩
   refine ite2 (fun c=>?_) (fun c=>?_)
   ·rw [c,Bool.true_and] at q'
    refine ⟨_,rfl,rfl,z,rfl,rfl,_,rfl,?_⟩
    refine ite2 (fun c=>?_) (fun c=>?_)
    ·rw [c,Bool.true_and] at q'
     exact ⟨_,rfl,rfl,z,rfl,rfl,q'⟩
    ·rw [Bool.eq_false_iff.mpr c,Bool.false_and] at q'
     exact q'
   ·rw [Bool.eq_false_iff.mpr c,Bool.false_and,Bool.false_and] at q'
    exact q'
  ·rw [Bool.eq_false_iff.mpr c,Bool.false_and,Bool.false_and,Bool.false_and] at q'
   exact ⟨_,rfl,q'⟩
theorem sc15:zn ["thing"] ["thing"] (ze (top 15)):=fsM
theorem z67 (D:zi K mg "is_name" (top 15)) (G:Glo mg) (F1:FN P w K mg base 1 "is_letters" ["thing","most"] Q4):FN P w K mg base 2 "is_name" ["thing"] (sp1 z4m):=by
 refine FN.o D sc15 fun f cdv A outer s H vs Q E hr h=>?_
 obtain ⟨x,rfl,hx,q⟩:=h
 refine ⟨_,zf (zv (jh (zp F1 hr rfl (z6 (pv 0) (z6 (jL rfl G.name) z7)))
  (jg (z0Z F.plainAttrs_str F.slot_str_islower F.type_str_islower z1F (pv 0))))),?_⟩
 refine ⟨_,rfl,x,4,rfl,hx,_,rfl,?_⟩
 have q':Q (.bl (jE x 4&&low x)) H:=q
 refine ite2 (fun c=>?_) (fun c=>?_)
 ·rw [c,Bool.true_and] at q'
  cases hx with
  | non=>cases c
  | bl b=>cases c
  | int i=>cases c
  | str z hz=>exact ⟨_,rfl,rfl,z,rfl,rfl,q'⟩
 ·rw [Bool.eq_false_iff.mpr c,Bool.false_and] at q'
  exact q'
theorem sc16:zn ["thing"] ["thing"] (ze (top 16)):=fsM
theorem z6b (D:zi K mg "is_kind" (top 16)) (G:Glo mg) (F1:FN P w K mg base 1 "is_letters" ["thing","most"] Q4):FN P w K mg base 2 "is_kind" ["thing"] (sp1 z4t):=by
 refine FN.o D sc16 fun f cdv A outer s H vs Q E hr h=>?_
 obtain ⟨x,rfl,hx,q⟩:=h
 refine ⟨_,zf (zv (zp F1 hr rfl (z6 (pv 0) (z6 (jL rfl G.kind) z7)))),?_⟩
 exact ⟨_,rfl,x,8,rfl,hx,q⟩
theorem sc17:zn ["thing"] ["thing"] (ze (top 17)):=fsM
theorem z69 (D:zi K mg "is_mark" (top 17)) (G:Glo mg) (F1:FN P w K mg base 2 "is_number_within" ["thing","low","high"] jI):FN P w K mg base 3 "is_mark" ["thing"] (sp1 z4p):=by
 refine FN.o D sc17 fun f cdv A outer s H vs Q E hr h=>?_
 obtain ⟨x,rfl,hx,q⟩:=h
 refine ⟨_,zf (zv (zp F1 hr rfl (z6 (pv 0) (z6 zh (z6 (jL rfl G.mark) z7))))),?_⟩
 exact ⟨_,rfl,x,0,99,rfl,hx,q⟩
def z2s:Sp:=fun vs H Q _=>∃x most,vs=[x,.int most]∧Scal x∧Q (.bl (z2f x most)) H
theorem sc18:zn ["thing","most"] ["thing","most"] (ze (top 18)):=fsM
theorem z4D (D:zi K mg "is_value_within" (top 18)) (G:Glo mg) (F1:FN P w K mg base 2 "is_number_within" ["thing","low","high"] jI) (F2:FN P w K mg base 2 "is_kind" ["thing"] (sp1 z4t)):FN P w K mg base 3 "is_value_within" ["thing","most"] z2s:=by
 refine FN.o D sc18 fun f cdv A outer s H vs Q E hr h=>?_
 obtain ⟨x,most,rfl,hx,q⟩:=h
 refine ⟨_,z8 (qg (PW.pt (Qs (zr QB (pv 0) qU (zB _)) (Ze (je (zw qb rfl G.isinstance zF (z6 (pv 0) (z6 (Qa "bool" rfl G.bool Qo) z7))))))) (zf (zv Qc)) zH)
  (zf (zv (z5K (zp F1 hr rfl (z6 (pv 0) (z6 (JC ZF (pv 1)) (z6 (pv 1) z7)))) (jg (zp F2 hr rfl (z6 (pv 0) z7)))))),?_⟩
 refine ⟨_,rfl,rfl,_,rfl,?_⟩
 have q':Q (.bl (decide (x=.non)||isB x||qJ x (-most) most||z4t x)) H:=q
 refine ite2 (fun c=>?_) (fun c=>?_)
 ·rw [c,Bool.true_or,Bool.true_or,Bool.true_or] at q'
  exact iteT q'
 ·rw [Bool.eq_false_iff.mpr c,Bool.false_or] at q'
  obtain ⟨t2,ty2,k2⟩:=Qm (K:=K) (H:=H) hx
  refine ⟨_,rfl,_,"bool",t2,_,rfl,ty2,k2,_,rfl,?_⟩
  refine ite2 (fun c=>?_) (fun c=>?_)
  ·rw [c,Bool.true_or,Bool.true_or] at q'
   exact q'
  ·rw [Bool.eq_false_iff.mpr c,Bool.false_or] at q'
   refine ⟨_,rfl,_,rfl,most,rfl,_,rfl,x,-most,most,rfl,hx,_,rfl,?_⟩
   refine ite2 (fun c=>?_) (fun c=>?_)
   ·rw [c,Bool.true_or] at q'
    exact q'
   ·rw [Bool.eq_false_iff.mpr c,Bool.false_or] at q'
    exact ⟨_,rfl,x,rfl,hx,q'⟩
theorem sc19:zn ["thing"] ["thing"] (ze (top 19)):=fsM
theorem z3n (D:zi K mg "is_pushed" (top 19)) (G:Glo mg) (F1:FN P w K mg base 3 "is_value_within" ["thing","most"] z2s):FN P w K mg base 4 "is_pushed" ["thing"] (sp1 jw):=by
 refine FN.o D sc19 fun f cdv A outer s H vs Q E hr h=>?_
 obtain ⟨x,rfl,hx,q⟩:=h
 refine ⟨_,zf (zv (zp F1 hr rfl (z6 (pv 0) (z6 (jL rfl G.pushed) z7)))),?_⟩
 exact ⟨_,rfl,x,1000000000,rfl,hx,q⟩
theorem sc20:zn ["thing"] ["thing"] (ze (top 20)):=fsM
theorem z3o (D:zi K mg "is_copied" (top 20)) (F1:FN P w K mg base 2 "is_number_within" ["thing","low","high"] jI):FN P w K mg base 3 "is_copied" ["thing"] (sp1 Jf):=by
 refine FN.o D sc20 fun f cdv A outer s H vs Q E hr h=>?_
 obtain ⟨x,rfl,hx,q⟩:=h
 refine ⟨_,zf (zv (zp F1 hr rfl (z6 (pv 0) (z6 zh (z6 zh z7))))),?_⟩
 exact ⟨_,rfl,x,1,9,rfl,hx,q⟩
theorem sc21:zn ["thing"] ["thing"] (ze (top 21)):=fsM
theorem z1V (D:zi K mg "is_swapped_with" (top 21)) (F1:FN P w K mg base 2 "is_number_within" ["thing","low","high"] jI):FN P w K mg base 3 "is_swapped_with" ["thing"] (sp1 ZR):=by
 refine FN.o D sc21 fun f cdv A outer s H vs Q E hr h=>?_
 obtain ⟨x,rfl,hx,q⟩:=h
 refine ⟨_,zf (zv (zp F1 hr rfl (z6 (pv 0) (z6 zh (z6 zh z7))))),?_⟩
 exact ⟨_,rfl,x,2,9,rfl,hx,q⟩
theorem sc22:zn ["thing"] ["thing"] (ze (top 22)):=fsM
theorem z65 (D:zi K mg "is_none" (top 22)):FN P w K mg base 1 "is_none" ["thing"] (sp1 z4j):=by
 refine FN.o D sc22 fun f cdv A outer s H vs Q E hr h=>?_
 obtain ⟨x,rfl,hx,q⟩:=h
 refine ⟨_,zf (zv (qZ QB (pv 0) qU (zB _))),?_⟩
 exact ⟨_,rfl,rfl,q⟩
theorem ZB {α β:Type} (f:α→β) (x:Str):∀l:List (Str × α),(l.map fun p=>(p.1,f p.2)).lookup x=(l.lookup x).map f
 | []=>rfl
 | (k,v) :: r=>by
  rw [kP,List.lookup_cons,List.lookup_cons]
  cases x == k with
  | true=>rfl
  | false=>exact ZB f x r
noncomputable def z2x:List (Str × V):=Zx.map fun p=>(p.1,V.str p.2)
theorem Q5 (x:Str):z2x.lookup x=(zZ x).map V.str:=ZB _ _ _
structure Tabs (w:World) (K:ko) (mg:Str→Option Value):Prop where
 sorts:∃d,mg "ARG_SORTS"=some (.ref d)∧KTab w.params K d z2x
 tests:∃d f1 f2 f3 f4 f5 f6,mg "ARG_TESTS"=some (.ref d)∧KTab w.params K d [("value",.ref f1),("name",.ref f2),("copied",.ref f3),("swapped",.ref f4),("mark",.ref f5),("none",.ref f6)]∧
  mg "is_pushed"=some (.ref f1)∧mg "is_name"=some (.ref f2)∧mg "is_copied"=some (.ref f3)∧mg "is_swapped_with"=some (.ref f4)∧mg "is_mark"=some (.ref f5)∧mg "is_none"=some (.ref f6)
noncomputable def isOp:V→Bool
 | .str s=>(zZ s).isSome
 | _=>false
theorem sc24:zn ["thing"] ["thing"] (ze (top 24)):=fsM
theorem z87 (D:zi K mg "is_op" (top 24)) (G:Glo mg) (T:Tabs w K mg):FN P w K mg base 1 "is_op" ["thing"] (sp1 isOp):=by
 refine FN.o D sc24 fun f cdv A outer s H vs Q E hr h=>?_
 obtain ⟨x,rfl,hx,q⟩:=h
 obtain ⟨d,md,td⟩:=T.sorts
 refine ⟨_,zf (zv (jh (zw qb rfl G.isinstance zF (z6 (pv 0) (z6 (Qa "str" rfl G.str z1l) z7))) (jg (z5e (z6Y td rfl md (pv 0)))))),?_⟩
 obtain ⟨t1,ty1,k1⟩:=z1a (K:=K) (H:=H) hx
 refine ⟨_,rfl,_,"str",t1,_,rfl,ty1,k1,_,rfl,?_⟩
 cases hx with
 | non=>exact q
 | bl b=>exact q
 | int i=>exact q
 | str z hz=>
  refine ⟨_,rfl,z,rfl,?_⟩
  have q':Q (.bl (zZ z).isSome) H:=q
  rw [Q5,Option.isSome_map]
  exact q'
def z2t:Sp:=fun vs H Q _=>∃op s,vs=[.str op]∧zZ op=some s∧Q (.str s) H
theorem sc25:zn ["op"] ["op"] (ze (top 25)):=fsM
theorem z63 (D:zi K mg "arg_sort" (top 25)) (T:Tabs w K mg):FN P w K mg base 1 "arg_sort" ["op"] z2t:=by
 refine FN.o D sc25 fun f cdv A outer s H vs Q E hr h=>?_
 obtain ⟨op,so,rfl,hs,q⟩:=h
 obtain ⟨d,md,td⟩:=T.sorts
 refine ⟨_,zf (zv (z2Q td rfl md (pv 0) (fun _ _=>rfl))),?_⟩
 exact ⟨_,rfl,op,.str so,rfl,by rw [Q5,hs];rfl,q⟩
def z59:Sp:=fun vs H Q _=>∃op s x,vs=[.str op,x]∧zZ op=some s∧Scal x∧Q (.bl (j6 s x)) H
theorem sc26:zn ["op","arg","fits"] ["op","arg"] (ze (top 26)):=fsM
theorem z5D {op s:Str} (h:zZ op=some s):s="value"∨s="name"∨s="copied"∨s="swapped"∨s="mark"∨s="none":=by
 have hm:(op,s)∈Zx:=PySem.mem_of_lookup h
 have all:∀p∈Zx,p.2="value"∨p.2="name"∨p.2="copied"∨p.2="swapped"∨p.2="mark"∨p.2="none":=by trivial
 exact all _ hm
theorem z6c (D:zi K mg "arg_fits" (top 26)) (T:Tabs w K mg) (F1:FN P w K mg base 1 "arg_sort" ["op"] z2t) (A1:FN P w K mg base 4 "is_pushed" ["thing"] (sp1 jw)) (A2:FN P w K mg base 2 "is_name" ["thing"] (sp1 z4m))
  (A3:FN P w K mg base 3 "is_copied" ["thing"] (sp1 Jf)) (A4:FN P w K mg base 3 "is_swapped_with" ["thing"] (sp1 ZR)) (A5:FN P w K mg base 3 "is_mark" ["thing"] (sp1 z4p)) (A6:FN P w K mg base 1 "is_none" ["thing"] (sp1 z4j)):
  FN P w K mg base 5 "arg_fits" ["op","arg"] z59:=by
 refine FN.o D sc26 fun f cdv A outer s H vs Q E hr h=>?_
 obtain ⟨op,so,x,rfl,hs,hx,q⟩:=h
 obtain ⟨d,f1,f2,f3,f4,f5,f6,md,td,m1,m2,m3,m4,m5,m6⟩:=T.tests
 have hr1:=hr.mono (show 1≤4 by decide)
 refine ⟨_,z8 (zC (i:=2) sc26.nd rfl (Or.inl rfl) (z2Q td rfl md (zp F1 hr1 rfl (z6 (pv 0) z7)) (fun _ _=>rfl))) (zf (zv (z4g (pv 2) (z6 (pv 1) z7)))),?_⟩
 refine ⟨_,rfl,op,so,rfl,hs,so,?_⟩
 rcases z5D hs with e | e | e | e | e | e
 ·subst e
  obtain ⟨g,gd,mg1,kp,bd,ok⟩:=A1
  cases (ku (m1.symm.trans mg1))
  exact ⟨.ref f1,rfl,by rfl,f1,gd,_,_,4,rfl,kp,ok,hr,bd,_,rfl,x,rfl,hx,q⟩
 ·subst e
  obtain ⟨g,gd,mg1,kp,bd,ok⟩:=A2
  cases (ku (m2.symm.trans mg1))
  exact ⟨.ref f2,rfl,by rfl,f2,gd,_,_,2,rfl,kp,ok,hr.mono (by decide),bd,_,rfl,x,rfl,hx,q⟩
 ·subst e
  obtain ⟨g,gd,mg1,kp,bd,ok⟩:=A3
  cases (ku (m3.symm.trans mg1))
  exact ⟨.ref f3,rfl,by rfl,f3,gd,_,_,3,rfl,kp,ok,hr.mono (by decide),bd,_,rfl,x,rfl,hx,q⟩
 ·subst e
  obtain ⟨g,gd,mg1,kp,bd,ok⟩:=A4
  cases (ku (m4.symm.trans mg1))
  exact ⟨.ref f4,rfl,by rfl,f4,gd,_,_,3,rfl,kp,ok,hr.mono (by decide),bd,_,rfl,x,rfl,hx,q⟩
 ·subst e
  obtain ⟨g,gd,mg1,kp,bd,ok⟩:=A5
  cases (ku (m5.symm.trans mg1))
  exact ⟨.ref f5,rfl,by rfl,f5,gd,_,_,3,rfl,kp,ok,hr.mono (by decide),bd,_,rfl,x,rfl,hx,q⟩
 ·subst e
  obtain ⟨g,gd,mg1,kp,bd,ok⟩:=A6
  cases (ku (m6.symm.trans mg1))
  exact ⟨.ref f6,rfl,by rfl,f6,gd,_,_,1,rfl,kp,ok,hr.mono (by decide),bd,_,rfl,x,rfl,hx,q⟩
def z5C:Sp:=fun vs H Q _=>(vs=[.non]∧Q (.bl false) H)∨∃a op arg line,vs=[.ref a]∧H a=some (.tup [.str op,arg,line])∧op.length≤sizeLine∧Scal arg∧Scal line∧Q (.bl (rowV op arg line)) H
theorem sc27:zn ["thing","op","arg","line"] ["thing"] (ze (top 27)):=fsM
theorem z7i (D:zi K mg "is_row" (top 27)) (G:Glo mg) (F1:FN P w K mg base 1 "is_op" ["thing"] (sp1 isOp)) (F2:FN P w K mg base 5 "arg_fits" ["op","arg"] z59) (F3:FN P w K mg base 2 "is_number_within" ["thing","low","high"] jI):
  FN P w K mg base 6 "is_row" ["thing"] z5C:=by
 refine FN.of D sc27 (fun _ _ _ _ _ _=>zU1 fun _=>rfl) (fun vs H Q E h=>by rcases h with ⟨rfl,_⟩ | ⟨a,op,arg,line,rfl,_⟩ <;> rfl) (fun f cdv A outer s H vs Q E hr h=>?_)
 refine ⟨_,z8 (qg (PW.pt (Qs (Q8 (je (zw qb rfl G.isinstance zF (z6 (pv 0) (z6 (Qa "tuple" rfl G.tuple z26) z7)))))
   (Ze (zr z1C (zw zx rfl G.len zS (z6 (pv 0) z7)) zh (zB _))))) (zf (zv Qc)) zH)
  (z8 (ZG (pv 0) (jU rfl (zA (zu (i:=1) sc27.nd rfl (Or.inl rfl)) (zA (zu (i:=2) sc27.nd rfl (Or.inl rfl)) (zA (zu (i:=3) sc27.nd rfl (Or.inl rfl)) qA)))))
  (zf (zv (jh (zp F1 (hr.mono (by decide)) rfl (z6 (pv 1) z7)) (jh (zp F2 hr rfl (z6 (pv 1) (z6 (pv 2) z7))) (jg (zp F3 (hr.mono (by decide)) rfl (z6 (pv 3) (z6 zh (z6 (jL rfl G.line) z7)))))))))),?_⟩
 rcases h with ⟨rfl,q⟩ | ⟨a,op,arg,line,rfl,ha,hop,harg,hline,q⟩
 ·obtain ⟨t1,ty1,k1⟩:=z1P (K:=K) (H:=H) .non
  exact ⟨_,rfl,_,"tuple",t1,_,rfl,ty1,k1,_,rfl,iteT (iteT q)⟩
 ·refine ⟨_,rfl,_,"tuple",_,true,rfl,.tup ha,rfl,_,rfl,iteF ?_⟩
  refine ⟨_,rfl,a,_,rfl,.inr (SqT.of ha),rfl,_,rfl,iteF ?_⟩
  refine ⟨_,rfl,a,_,rfl,SqT.of ha,rfl,_,_,rfl,_,_,rfl,_,_,rfl,rfl,?_⟩
  refine ⟨_,rfl,_,rfl,.str op hop,_,rfl,?_⟩
  have q':Q (.bl ((zZ op).isSome&&ZE op arg&&qJ line 0 9999)) H:=q
  cases hs:zZ op with
  | none=>
   have e:isOp (.str op)=false:=by show (zZ op).isSome=false;rw [hs];rfl
   rw [e]
   rw [hs] at q'
   exact iteF q'
  | some so=>
   have e:isOp (.str op)=true:=by show (zZ op).isSome=true;rw [hs];rfl
   have ea:ZE op arg=j6 so arg:=by unfold ZE;rw [hs]
   rw [e]
   rw [hs,ea] at q'
   refine iteT ⟨_,rfl,_,rfl,op,so,arg,rfl,hs,harg,_,rfl,?_⟩
   refine ite2 (fun c=>?_) (fun c=>?_)
   ·rw [c] at q'
    exact ⟨_,rfl,line,0,9999,rfl,hline,q'⟩
   ·rw [Bool.eq_false_iff.mpr c] at q'
    exact q'
end
structure Row where
 op:Str
 arg:V
 line:Int
noncomputable def tupV (r:Row):List V:=[.str r.op,r.arg,.int r.line]
abbrev zP (H:Hp):List Addr→List Row→Prop:=Paired fun a r=>H a=some (.tup (tupV r))
def ZQ (r:Row):Prop:=rowV r.op r.arg (.int r.line)=true
theorem z0T {α β:Type} {F:α→β→Prop} {xs ys:List α} {us vs:List β} (h:Paired F xs us) (k:Paired F ys vs):Paired F (xs++ys) (us++vs):=by
 induction h with
 | nil=>exact k
 | cons r _ ih=>exact .cons r ih
theorem z2H {β:Type} {F:Addr→β→Prop} {as:List Addr} {rs:List β} (h:Paired F as rs):∀{i:Nat} {x:V},(as.map V.ref)[i]?=some x→∃a r,x=.ref a∧rs[i]?=some r∧F a r:=by
 induction h with
 | nil=>intro i x e;simp at e
 | cons r t ih=>
  intro i x e
  cases i with
  | zero=>simp at e;subst e;exact ⟨_,_,rfl,rfl,r⟩
  | succ i=>
   obtain ⟨a,r,h1,h2,h3⟩:=ih (i:=i) (x:=x) (by simpa using e)
   exact ⟨a,r,h1,by simpa using h2,h3⟩
theorem z6T {α β:Type} {F:α→β→Prop} {as:List α} {rs:List β} (h:Paired F as rs):∀{i:Nat} {r:β},rs[i]?=some r→∃a,as[i]?=some a∧F a r:=by
 induction h with
 | nil=>intro i x e;simp at e
 | cons r t ih=>
  intro i x e
  cases i with
  | zero=>simp at e;subst e;exact ⟨_,rfl,r⟩
  | succ i=>
   obtain ⟨a,h2,h3⟩:=ih (i:=i) (by simpa using e)
   exact ⟨a,by simpa using h2,h3⟩
theorem zP.keep {H H':Hp} {as:List Addr} {rs:List Row} (h:zP H as rs) (k:∀a xs,H a=some (.tup xs)→H' a=some (.tup xs)):zP H' as rs:=Paired.mapP h fun _ _ e=>k _ _ e
theorem zP.same {H H':Hp} {as:List Addr} {rs:List Row} (h:zP H as rs) (s:Same H H'):zP H' as rs:=h.keep fun _ _ e=>s _ _ e
theorem zP.get {H:Hp} {as:List Addr} {rs:List Row} {i:Nat} {x:V} (h:zP H as rs) (e:(as.map V.ref)[i]?=some x):∃a r,x=.ref a∧rs[i]?=some r∧H a=some (.tup (tupV r)):=z2H h e
theorem zP.append {H:Hp} {as bs:List Addr} {rs ts:List Row} (h:zP H as rs) (k:zP H bs ts):zP H (as++bs) (rs++ts):=z0T h k
theorem zP.len {H:Hp} {as:List Addr} {rs:List Row} (h:zP H as rs):as.length=rs.length:=Paired.length h
theorem zk {H:Hp} {p:Addr} (h:H p=none) (o:HO):Same H (upd H p o):=fun b u q=>by rw [zg (zc q h)];exact q
theorem Same.upd {H H2:Hp} {p:Addr} (s:Same H H2) (h:H p=none) (o:HO):Same H (upd H2 p o):=fun b u q=>by rw [zg (zc q h)];exact s b u q
theorem z4i {op s:Str} (h:zZ op=some s):op.length≤7:=by
 have hm:(op,s)∈Zx:=PySem.mem_of_lookup h
 have all:∀p∈Zx,p.1.length≤7:=by trivial
 exact all _ hm
theorem z2y {n:Nat} (h:n≤1000):n≤sizeLine:=Nat.le_of_lt (q0 h)
theorem ZJ {x:V} {m:Int} (h:jE x m=true) (hm:m≤100):Scal x:=by
 cases x with
 | str s=>
  have h:(decide ((1:Int)≤(s.length:Int))&&decide ((s.length:Int)≤m)&&Txt.isascii s&&Txt.isalpha s)=true:=h
  simp only [kZ,ya] at h
  exact .str s (z2y (by lia))
 | _=>cases h
theorem qo {x:V} {lo hi:Int} (h:qJ x lo hi=true):∃i,x=.int i∧lo≤i∧i≤hi:=by
 cases x with
 | int i=>
  have h:(decide (lo≤i)&&decide (i≤hi))=true:=h
  simp only [kZ,ya] at h
  exact ⟨i,rfl,h.1,h.2⟩
 | _=>cases h
theorem z3q {s:Str} {x:V} (h:j6 s x=true):Scal x:=by
 unfold j6 at h
 split at h
 ·unfold jw z2f at h
  simp only [Bool.or_eq_true,ya] at h
  rcases h with ((h | h) | h) | h
  ·subst h;exact .non
  ·cases x with
   | bl b=>exact .bl b
   | _=>cases h
  ·obtain ⟨i,rfl,_⟩:=qo h;exact .int i
  ·exact ZJ h (by decide)
 ·split at h
  ·unfold z4m at h
   simp only [kZ] at h
   exact ZJ h.1 (by decide)
  ·split at h
   ·obtain ⟨i,rfl,_⟩:=qo h;exact .int i
   ·split at h
    ·obtain ⟨i,rfl,_⟩:=qo h;exact .int i
    ·split at h
     ·obtain ⟨i,rfl,_⟩:=qo h;exact .int i
     ·unfold z4j at h
      simp only [ya] at h
      subst h;exact .non
theorem ZQ.parts {r:Row} (h:ZQ r):∃s,zZ r.op=some s∧j6 s r.arg=true∧0≤r.line∧r.line≤9999∧r.op.length≤sizeLine∧Scal r.arg:=by
 unfold ZQ rowV at h
 simp only [kZ] at h
 obtain ⟨⟨h1,h2⟩,h3⟩:=h
 obtain ⟨s,hs⟩:=Option.isSome_iff_exists.mp h1
 have h2':j6 s r.arg=true:=by unfold ZE at h2;rw [hs] at h2;exact h2
 obtain ⟨i,e,l1,l2⟩:=qo h3
 cases e
 exact ⟨s,hs,h2',l1,l2,z2y (kn (z4i hs) (by decide)),z3q h2'⟩
theorem Zk {x:V} (h:j6 "mark" x=true):∃m:Int,x=.int m∧0≤m∧m≤99:=by
 have e:j6 "mark" x=z4p x:=by
  unfold j6
  rw [kq (by trivial),kq (by trivial),kq (by trivial),kq (by trivial),kr rfl]
 rw [e] at h
 exact qo h
noncomputable def labP (m:Int) (r:Row):Bool:=decide (r.op="label")&&decide (r.arg=.int m)
noncomputable def zG (rs:List Row) (m:Int):Option Nat:=rs.findIdx? (labP m)
noncomputable def ju (rs:List Row) (i:Nat) (r:Row):Bool:=
 if r.op="label" then (match r.arg with | .int m=>decide (zG rs m=some i) | _=>false)
 else if zZ r.op=some ("mark":Str) then (match r.arg with | .int m=>(zG rs m).isSome | _=>false) else true
def Qq (kvs:List (Key × V)) (rs:List Row):Prop:=∀m:Int,valV kvs (Sum.inl m:Key)=Option.map (fun i:Nat=>V.int (i:Int)) (zG rs m)
section
def z0P (K:ko):Sp:=fun vs H Q _=>∃l as rs,vs=[.ref l]∧SqL K H l (as.map V.ref)∧zP H as rs∧(∀r∈rs,ZQ r)∧rs.length≤1000∧
 ∀d kvs H',H d=none→Same H H'→H' d=some (.dK kvs)→Qq kvs rs→Q (.ref d) H'
theorem sc28:zn ["rows","places","place","row"] ["rows"] (ze (top 28)):=fsM
theorem qj {α:Type} {l:List α} {i:Nat} {x:α} (h:l[i]?=some x):l.take (i+1)=l.take i++[x]:=by
 rw [List.take_add_one,h]
 rfl
theorem J4 {rs:List Row} {i:Nat} {r:Row} (h:rs[i]?=some r) (m:Int):zG (rs.take (i+1)) m=(zG (rs.take i) m).or (if labP m r=true then some i else none):=by
 have hl:(rs.take i).length=i:=by
  rw [List.length_take]
  have:=(ke.mp h).1
  lia
 unfold zG
 rw [qj h,List.findIdx?_append,hl]
 congr 1
 rw [List.findIdx?_cons]
 by_cases c:labP m r=true
 ·rw [kr c,kr c];simp
 ·rw [kq c,kq c];simp
theorem z6a (D:zi K mg "label_places" (top 28)) (G:Glo mg) (FR:FN P w K mg base 6 "is_row" ["thing"] z5C):FN P w K mg base 7 "label_places" ["rows"] (z0P K):=by
 refine FN.o D sc28 fun f cdv A outer s H vs Q E hr h=>?_
 obtain ⟨l,as,rs,rfl,hS,hR,hok,hlen,q⟩:=h
 refine ⟨_,z8 (zC (i:=1) sc28.nd rfl (Or.inl rfl) z0W)
  (z8 (jf PassesOwn.never rfl (QV rfl G.enumerate (z6 (pv 0) z7)) (jU rfl (zA (zu (i:=2) sc28.nd rfl (Or.inl rfl)) (zA (zu (i:=3) sc28.nd rfl (Or.inl rfl)) qA)))
   (zf (qg (PW.pt (Qy (je (zp FR hr rfl (z6 (pv 3) z7))) (Zy (zr jA (qa qH (pv 3) zh (fun _ _=>rfl)) zq (zB _)))))
    (zf (zj (z2P (pv 1) (qa qH (pv 3) zh (fun _ _=>rfl)) (pv 2) ⟨rfl,rfl,rfl,rfl⟩))) zH)))
  (zf (zv (pv 1)))),?_⟩
 intro d hd
 have hll:as.length=rs.length:=hR.len
 have hml:(as.map V.ref).length=rs.length:=by rw [kh];exact hll
 refine ⟨_,rfl,l,rfl,⟨_,(zk hd _).seq hS⟩,Jb (K:=K) (a:=l) (xs:=as.map V.ref) (fun i σ H2=>∃kvs v2 v3,σ=[some (.ref l),some (.ref d),v2,v3]∧Same H H2∧H2 d=some (.dK kvs)∧kvs.length≤i∧Qq kvs (rs.take i))
  ⟨[],none,none,rfl,zk hd _,zb,kc _,fun m=>by rw [List.take_zero];rfl⟩ (fun i σ H2 _ ⟨_,_,_,_,s2,_⟩=>s2.seq hS) ?_ ?_⟩
 ·rintro i x σ H2 p hi ⟨kvs,v2,v3,rfl,s2,hD,hk,hL⟩ hp
  obtain ⟨a,r,rfl,hr1,ha⟩:=(hR.same s2).get hi
  have hil:i < rs.length:=(ke.mp hr1).1
  have npd:d≠p:=zc hD hp
  have nap:a≠p:=zc ha hp
  have ha':(upd H2 p (.tup [.int i,.ref a])) a=some (.tup (tupV r)):=by rw [zg nap];exact ha
  have s3:Same H (upd H2 p (.tup [.int i,.ref a])):=fun b o e=>by rw [zg (zc (s2 b o e) hp)];exact s2 b o e
  obtain ⟨so,hs,hfit,hl0,hl1,hop,hsc⟩:=(hok r (kD hr1)).parts
  have hrow:rowV r.op r.arg (.int r.line)=true:=hok r (kD hr1)
  refine ⟨p,_,rfl,SqT.of zb,rfl,_,_,rfl,_,_,rfl,rfl,?_⟩
  refine ⟨_,rfl,.inr ⟨a,r.op,r.arg,.int r.line,rfl,ha',hop,hsc,.int _,_,rfl,?_⟩⟩
  rw [hrow]
  refine iteT ⟨_,rfl,a,_,_,_,rfl,rfl,SqT.of ha',zy (j:=0) rfl,rfl,_,rfl,?_⟩
  have hD':(upd H2 p (.tup [.int i,.ref a])) d=some (.dK kvs):=by rw [zg npd];exact hD
  refine ite2 (fun c=>?_) (fun c=>?_)
  ·have eop:r.op="label":=by
    have:=kw c
    injection this
   have esort:so="mark":=by
    rw [eop] at hs
    have:zZ "label"=some "mark":=by trivial
    rw [this] at hs
    exact (ku hs).symm
   rw [esort] at hfit
   obtain ⟨m,em,_,_⟩:=Zk hfit
   refine ⟨_,rfl,d,rfl,.inl ⟨kvs,.inl hD'⟩,_,rfl,a,_,_,_,rfl,rfl,SqT.of ha',zy (j:=1) rfl,_,rfl,kvs,Sum.inl m,hD',em,q0 (by lia),?_⟩
   have eP:labP m r=true:=by unfold labP;rw [eop,em];simp
   cases hv:valV kvs (Sum.inl m:Key) with
   | some v=>
    refine ⟨kvs,_,_,rfl,s3,hD',by lia,fun m'=>?_⟩
    rw [J4 hr1 m',hL m']
    by_cases e:m'=m
    ·subst e
     have:=hL m'
     rw [hv] at this
     cases h1:zG (rs.take i) m' with
     | none=>rw [h1] at this;cases this
     | some j=>rfl
    ·have:labP m' r=false:=by
      unfold labP
      rw [em]
      have:¬(V.int m=V.int m'):=fun z=>e (by injection z with z;exact z.symm)
      simp [this]
     rw [this]
     simp
   | none=>
    refine ⟨putK kvs (Sum.inl m) (.int i),_,_,rfl,fun b o e=>?_,zb,?_,fun m'=>?_⟩
    ·rw [zg (zc e hd)]
     exact s3 b o e
    ·have:=qp kvs (Sum.inl m:Key) (V.int i)
     lia
    ·rw [Z8,J4 hr1 m']
     by_cases e:m'=m
     ·subst e
      have:=hL m'
      rw [hv] at this
      rw [kr rfl,eP,kr rfl]
      cases h1:zG (rs.take i) m' with
      | none=>rfl
      | some j=>rw [h1] at this;cases this
     ·have:labP m' r=false:=by
       unfold labP
       rw [em]
       have:¬(V.int m=V.int m'):=fun z=>e (by injection z with z;exact z.symm)
       simp [this]
      rw [this,kq (fun z=>e (by injection z)),hL m']
      simp
  ·refine ⟨kvs,_,_,rfl,s3,hD',by lia,fun m'=>?_⟩
   rw [J4 hr1 m',hL m']
   have:labP m' r=false:=by
    unfold labP
    have:¬(r.op="label"):=fun z=>c (by rw [z];rfl)
    simp [this]
   rw [this]
   simp
 ·rintro σ H2 ⟨kvs,v2,v3,rfl,s2,hD,hk,hL⟩
  refine ⟨_,rfl,q d kvs H2 hd s2 hD ?_⟩
  rw [hml,List.take_length] at hL
  exact hL
end
section
def z58:Sp:=fun vs H Q _=>∃a i d r kvs rs,vs=[.ref a,.int (i:Nat),.ref d]∧H a=some (.tup (tupV r))∧ZQ r∧H d=some (.dK kvs)∧Qq kvs rs∧(∀m:Int,r.op="label"→r.arg=.int m→(zG rs m).isSome=true)∧Q (.bl (ju rs i r)) H
theorem sc29:zn ["row","place","labels","op","mark"] ["row","place","labels"] (ze (top 29)):=fsM
theorem jP:zZ "label"=some "mark":=by trivial
theorem JT (D:zi K mg "mark_fits" (top 29)) (FS:FN P w K mg base 1 "arg_sort" ["op"] z2t):FN P w K mg base 2 "mark_fits" ["row","place","labels"] z58:=by
 refine FN.o D sc29 fun f cdv A outer s H vs Q E hr h=>?_
 obtain ⟨a,i,d,r,kvs,rs,rfl,ha,hok,hd,hL,hlab,q⟩:=h
 have hu:=z4v hr
 obtain ⟨so,hs,hfit,hl0,hl1,hop,hsc⟩:=hok.parts
 refine ⟨_,z8 (Qz (i:=3) (j:=4) rfl sc29.nd rfl rfl (by decide) rfl rfl (z6 (qa qH (pv 0) zh (fun _ _=>rfl)) (z6 (qa qH (pv 0) zh (fun _ _=>rfl)) z7)) rfl)
  (z8 (qg (zr jA (pv 3) zq (zB _)) (zf (zv (qZ jA (QW hu (pv 2) (pv 4) (fun _ _=>rfl)) (pv 1) (zB _)))) zH)
  (zf (zv (z5K (qZ z1C (zp FS hr rfl (z6 (pv 3) z7)) zq (zB _)) (jg (z5e (z5f hu (pv 4) (pv 2)))))))),?_⟩
 refine ⟨_,rfl,a,_,_,_,rfl,rfl,SqT.of ha,zy (j:=0) rfl,_,rfl,a,_,_,_,rfl,rfl,SqT.of ha,zy (j:=1) rfl,_,_,rfl,?_⟩
 refine ⟨_,rfl,rfl,_,rfl,?_⟩
 refine ite2 (fun c=>?_) (fun c=>?_)
 ·have eop:r.op="label":=by
   have:=kw c
   injection this
  have esort:so="mark":=by
   rw [eop,jP] at hs
   exact (ku hs).symm
  rw [esort] at hfit
  obtain ⟨m,em,_,_⟩:=Zk hfit
  obtain ⟨j,hj⟩:=Option.isSome_iff_exists.mp (hlab m eop em)
  have hv:valV kvs (Sum.inl m:Key)=some (.int (j:Int)):=by rw [hL m,hj];rfl
  have hg:DGet H d r.arg (some (.int (j:Int))):=by rw [em,←hv];exact DGet.k (k:=Sum.inl m) hd
  refine ⟨_,rfl,_,rfl,d,_,rfl,hg,_,rfl,rfl,?_⟩
  have e:ju rs i r=decide (V.int (j:Int)=V.int (i:Int)):=by
   unfold ju
   rw [kr eop,em]
   show decide (zG rs m=some i)=_
   rw [hj]
   by_cases z:j=i
   ·subst z;simp
   ·rw [kf (fun y=>z (by injection y)),kf (fun y=>z (by injection y with y;lia))]
  rw [e] at q
  exact q
 ·have eop:¬r.op="label":=fun z=>c (by rw [z];rfl)
  refine ⟨_,rfl,r.op,so,rfl,hs,rfl,_,rfl,?_⟩
  unfold ju at q
  rw [kq eop,hs] at q
  by_cases e:so="mark"
  ·subst e
   rw [kr rfl] at q
   obtain ⟨m,em,_,_⟩:=Zk hfit
   have e1:(!decide (V.str "mark"=V.str "mark"))=false:=by trivial
   rw [e1]
   refine iteF ⟨_,rfl,_,rfl,d,Option.map (fun i:Nat=>V.int (i:Int)) (zG rs m),rfl,?_,?_⟩
   ·have:DGet H d r.arg (Option.map (fun i:Nat=>V.int (i:Int)) (zG rs m)):=by
     rw [em,←hL m]
     exact DGet.k (k:=Sum.inl m) hd
    exact this
   ·rw [em] at q
    rw [Option.isSome_map]
    exact q
  ·rw [kq (fun z=>e (ku z))] at q
   have e1:(!decide (V.str so=V.str "mark"))=true:=by
    rw [kf (fun z=>e (by injection z))]
    rfl
   rw [e1]
   exact iteT q
def z6L (K:ko):Sp:=fun vs H Q _=>∃l as rs,vs=[.ref l]∧SqL K H l (as.map V.ref)∧zP H as rs∧(∀r∈rs,ZQ r)∧rs.length≤1000∧
 (∀H',Same H H'→(∀i r,rs[i]?=some r→ju rs i r=true)→Q .non H')∧
 (∀(i:Nat) r H',Same H H'→rs[i]?=some r→ju rs i r=false→(∀j r',j < i→rs[j]?=some r'→ju rs j r'=true)→Q (.int i) H')
theorem sc30:zn ["rows","labels","place","row"] ["rows"] (ze (top 30)):=fsM
theorem z0x {rs:List Row} {i:Nat} {r:Row} {m:Int} (h:rs[i]?=some r) (h1:r.op="label") (h2:r.arg=.int m):(zG rs m).isSome=true:=by
 unfold zG
 rw [List.findIdx?_isSome,List.any_eq_true]
 exact ⟨r,kD h,by unfold labP;rw [h1,h2];simp⟩
theorem z7n (D:zi K mg "first_bad_place" (top 30)) (G:Glo mg) (FR:FN P w K mg base 6 "is_row" ["thing"] z5C) (FL:FN P w K mg base 7 "label_places" ["rows"] (z0P K)) (FM:FN P w K mg base 2 "mark_fits" ["row","place","labels"] z58):
  FN P w K mg base 8 "first_bad_place" ["rows"] (z6L K):=by
 refine FN.o D sc30 fun f cdv A outer s H vs Q E hr h=>?_
 obtain ⟨l,as,rs,rfl,hS,hR,hok,hlen,q1,q2⟩:=h
 refine ⟨_,z8 (zC (i:=1) sc30.nd rfl (Or.inl rfl) (zp FL hr rfl (z6 (pv 0) z7)))
  (z8 (jf PassesOwn.never rfl (QV rfl G.enumerate (z6 (pv 0) z7)) (jU rfl (zA (zu (i:=2) sc30.nd rfl (Or.inl rfl)) (zA (zu (i:=3) sc30.nd rfl (Or.inl rfl)) qA)))
   (zf (qg (PW.pt (Qs (Q8 (je (zp FR (hr.mono (by decide)) rfl (z6 (pv 3) z7)))) (Ze (Q8 (je (zp FM (hr.mono (by decide)) rfl (z6 (pv 3) (z6 (pv 2) (z6 (pv 1) z7)))))))))
    (zf (zv (pv 2))) zH)))
  (zf (zv qU))),?_⟩
 refine ⟨_,rfl,l,as,rs,rfl,hS,hR,hok,hlen,fun d kvs H1 hd0 s1 hD hL=>?_⟩
 have hll:as.length=rs.length:=hR.len
 have hml:(as.map V.ref).length=rs.length:=by rw [kh];exact hll
 refine ⟨_,rfl,l,rfl,⟨_,s1.seq hS⟩,Jb (K:=K) (a:=l) (xs:=as.map V.ref) (fun i σ H2=>∃v2 v3,σ=[some (.ref l),some (.ref d),v2,v3]∧Same H1 H2∧∀j r',j < i→rs[j]?=some r'→ju rs j r'=true)
  ⟨none,none,rfl,Same.refl _,fun j _ hj=>absurd hj (Nat.not_lt_zero _)⟩ (fun i σ H2 _ ⟨_,_,_,s2,_⟩=>s2.seq (s1.seq hS)) ?_ ?_⟩
 ·rintro i x σ H2 p hi ⟨v2,v3,rfl,s2,hall⟩ hp
  obtain ⟨a,r,rfl,hr1,ha⟩:=((hR.same s1).same s2).get hi
  have hD2:=s2 _ _ hD
  have npd:d≠p:=zc hD2 hp
  have nap:a≠p:=zc ha hp
  have ha':(upd H2 p (.tup [.int i,.ref a])) a=some (.tup (tupV r)):=by rw [zg nap];exact ha
  have hD':(upd H2 p (.tup [.int i,.ref a])) d=some (.dK kvs):=by rw [zg npd];exact hD2
  have s3:Same H1 (upd H2 p (.tup [.int i,.ref a])):=fun b o e=>by rw [zg (zc (s2 b o e) hp)];exact s2 b o e
  have hro:=hok r (kD hr1)
  obtain ⟨so,hs,hfit,hl0,hl1,hop,hsc⟩:=hro.parts
  refine ⟨p,_,rfl,SqT.of zb,rfl,_,_,rfl,_,_,rfl,rfl,?_⟩
  refine ⟨_,rfl,.inr ⟨a,r.op,r.arg,.int r.line,rfl,ha',hop,hsc,.int _,_,rfl,?_⟩⟩
  have hrow:rowV r.op r.arg (.int r.line)=true:=hro
  rw [hrow]
  refine iteF ⟨_,rfl,_,rfl,_,rfl,a,i,d,r,kvs,rs,rfl,ha',hro,hD',hL,(fun m h1 h2=>z0x hr1 h1 h2),_,rfl,?_⟩
  cases hb:ju rs i r with
  | true=>
   refine iteF ⟨_,_,rfl,s3,fun j r' hj hr'=>?_⟩
   by_cases e:j=i
   ·subst e
    rw [hr1] at hr'
    cases hr'
    exact hb
   ·exact hall j r' (by lia) hr'
  | false=>exact iteT ⟨_,rfl,q2 i r _ (s1.trans s3) hr1 hb hall⟩
 ·rintro σ H2 ⟨v2,v3,rfl,s2,hall⟩
  refine q1 H2 (s1.trans s2) fun i r hir=>hall i r ?_ hir
  rw [hml]
  exact (ke.mp hir).1
def z6K:Sp:=fun vs H Q _=>∃l xs,vs=[.ref l]∧H l=some (.lst xs)∧1≤xs.length∧xs.length≤150∧Q (.bl true) H
theorem sc31:zn ["thing"] ["thing"] (ze (top 31)):=fsM
theorem z7m (D:zi K mg "has_places" (top 31)) (G:Glo mg):FN P w K mg base 1 "has_places" ["thing"] z6K:=by
 refine FN.o D sc31 fun f cdv A outer s H vs Q E hr h=>?_
 obtain ⟨l,xs,rfl,hl,h1,h2,q⟩:=h
 refine ⟨_,zf (zv (jh (zw qb rfl G.isinstance zF (z6 (pv 0) (z6 (Qa "list" rfl G.list Zs) z7)))
  (jg (QX z1D z1D zh (zw zx rfl G.len zS (z6 (pv 0) z7)) (jL rfl G.rows))))),?_⟩
 refine ⟨_,rfl,_,"list",_,true,rfl,.lst hl,rfl,_,rfl,iteT ?_⟩
 refine ⟨_,rfl,l,_,rfl,.inl (SqL.of hl),_,_,rfl,rfl,_,rfl,?_⟩
 have e1:decide ((1:Int)≤(xs.length:Int))=true:=kg (by lia)
 have e2:decide ((xs.length:Int)≤150)=true:=kg (by lia)
 rw [e1]
 refine iteT ⟨_,_,rfl,rfl,?_⟩
 show Q (.bl (decide ((xs.length:Int)≤150))) H
 rw [e2]
 exact q
structure Code (rs:List Row):Prop where
 ok:∀r∈rs,ZQ r
 fit:∀i r,rs[i]?=some r→ju rs i r=true
 lo:1≤rs.length
 hi:rs.length≤150
def z2w:Sp:=fun vs H Q _=>∃l as rs,vs=[.ref l]∧H l=some (.lst (as.map V.ref))∧zP H as rs∧Code rs∧∀H',Same H H'→Q .non H'
theorem sc32:zn ["thing","place"] ["thing"] (ze (top 32)):=fsM
theorem z4M (D:zi K mg "check_code" (top 32)) (FH:FN P w K mg base 1 "has_places" ["thing"] z6K) (FB:FN P w K mg base 8 "first_bad_place" ["rows"] (z6L K)):FN P w K mg base 9 "check_code" ["thing"] z2w:=by
 refine FN.o D sc32 fun f cdv A outer s H vs Q E hr h=>?_
 obtain ⟨l,as,rs,rfl,hl,hR,hC,q⟩:=h
 refine ⟨_,z8 (qg (Q8 (je (zp FH (hr.mono (by decide)) rfl (z6 (pv 0) z7)))) jx zH)
  (z8 (zC (i:=1) sc32.nd rfl (Or.inl rfl) (zp FB hr rfl (z6 (pv 0) z7)))
  (zf (qg (zr z0r (pv 1) qU (zB _)) jx zH))),?_⟩
 have hll:as.length=rs.length:=hR.len
 refine ⟨_,rfl,l,_,rfl,hl,by rw [kh,hll];exact hC.lo,by rw [kh,hll];exact hC.hi,_,rfl,iteF ?_⟩
 refine ⟨_,rfl,l,as,rs,rfl,SqL.of hl,hR,hC.ok,kn hC.hi (by decide),fun H' s' _=>?_,fun i r H' s' hi hf _=>?_⟩
 ·exact ⟨_,rfl,rfl,_,rfl,iteF (q H' s')⟩
 ·rw [hC.fit i r hi] at hf
  cases hf
end
noncomputable def j8:List (Str × Int):=[("store",1),("drop",1),("add",2),("sub",2),("mul",2),("div",2),("rest",2),("less",2),("same",2),("neg",1),("not",1),("tell",1),("iftrue",1),("iffalse",1),("ortrue",1),("orfalse",1),("return",1),("raise",1)]
noncomputable def qX:List (Str × Int):=[("push",1),("load",1),("quick",1),("copy",1),("add",1),("sub",1),("mul",1),("div",1),("rest",1),("less",1),("same",1),("neg",1),("not",1)]
noncomputable def qu:List (Str × Int):=[("try",1),("endtry",-1)]
noncomputable def jumping:List Str:=["jump","iftrue","iffalse","ortrue","orfalse"]
noncomputable def leaving:List Str:=["ortrue","orfalse"]
noncomputable def qF:List Str:=["jump","return","raise"]
noncomputable def faulting:List Str:=["load","clear","add","sub","mul","div","rest","less","neg","raise"]
noncomputable def JP (t:List (Str × Int)):List (Str × V):=t.map fun p=>(p.1,V.int p.2)
noncomputable def tabI (t:List (Str × Int)) (x:Str):Int:=(t.lookup x).getD 0
theorem Zn (t:List (Str × Int)) (x:Str):((JP t).lookup x).getD (.int 0)=.int (tabI t x):=by
 unfold JP tabI
 rw [ZB]
 cases t.lookup x <;> rfl
def KTup (K:ko) (a:Addr) (xs:List V):Prop:=
 ∃(o:Obj) (its:Array Value) (n:Nat),K.lookup a=some o∧o.cls=.type "tuple"∧o.data=.seq its n∧its.size≤sizeLine∧Vals xs its.toList
theorem KTup.sq {K:ko} {a:Addr} {xs:List V} (h:KTup K a xs) (H:Hp):SqT K H a xs:=.inr h
structure z2a (w:World) (K:ko) (mg:Str→Option Value):Prop where
 takes:∃d,mg "TAKES"=some (.ref d)∧KTab w.params K d (JP j8)
 pushes:∃d,mg "PUSHES"=some (.ref d)∧KTab w.params K d (JP qX)
 gput:∃d,mg "GUARDS_PUT"=some (.ref d)∧KTab w.params K d (JP qu)
 jumping:∃a,mg "JUMPING"=some (.ref a)∧KTup K a (jumping.map V.str)
 leaving:∃a,mg "LEAVING"=some (.ref a)∧KTup K a (leaving.map V.str)
 never:∃a,mg "NEVER_ON"=some (.ref a)∧KTup K a (qF.map V.str)
 faulting:∃a,mg "FAULTING"=some (.ref a)∧KTup K a (faulting.map V.str)
 first:∃a g,mg "FIRST_STATE"=some (.ref a)∧KTup K a [.int 0,.ref g]∧KTup K g []
noncomputable def inT (x:Str) (l:List Str):Bool:=inV (.str x) (l.map V.str)
theorem z3f {x:Str} {l:List Str}:inT x l=true↔x∈l:=by
 unfold inT inV
 rw [List.any_map,List.any_eq_true]
 constructor
 ·rintro ⟨y,hy,e⟩
  have e:(y == x)=true:=e
  rw [beq_iff_eq] at e
  exact e▸hy
 ·exact fun h=>⟨x,h,by show (x == x)=true;simp⟩
theorem jk (l:List Str):(l.map V.str).all ZC=true:=by
 rw [List.all_map,List.all_eq_true]
 exact fun _ _=>rfl
noncomputable def jr:List Str:=["copy","swap"]
noncomputable def qD (r:Row):Int:=if inT r.op jr=true then (match r.arg with | .int n=>n | _=>0) else tabI j8 r.op
abbrev Gd:=Int × Int
def jH (H:Hp) (x:V):Option Gd→Prop
 | none=>x=.non
 | some g=>∃a,x=.ref a∧H a=some (.tup [.int g.1,.int g.2])
theorem jH.same {H H':Hp} {x:V} {og:Option Gd} (h:jH H x og) (s:Same H H'):jH H' x og:=by
 cases og with
 | none=>exact h
 | some g=>
  obtain ⟨a,e,h⟩:=h
  exact ⟨a,e,s _ _ h⟩
noncomputable def Qj (r:Row) (og:Option Gd):Bool:=decide (r.op="endtry")&&og.isNone
noncomputable def qS (r:Row) (d:Int) (og:Option Gd):Bool:=match og with
 | none=>false
 | some g=>if r.op="copy" then false else decide ((if d - qD r > 0 then d - qD r else 0) < (if g.2 < d then g.2 else d))
theorem z22 {r:Row} (hok:ZQ r) (h:inT r.op jr=true):∃n:Int,r.arg=.int n∧1≤n∧n≤9:=by
 obtain ⟨s,hs,hfit,_⟩:=hok.parts
 rw [z3f] at h
 rcases ky.mp h with h | h
 ·rw [h,show zZ "copy"=some "copied" by trivial] at hs
  cases hs
  have e:j6 "copied" r.arg=Jf r.arg:=by
   unfold j6
   rw [kq (by trivial),kq (by trivial),kr rfl]
  rw [e] at hfit
  exact qo hfit
 ·rw [kl.mp h,show zZ "swap"=some "swapped" by trivial] at hs
  cases hs
  have e:j6 "swapped" r.arg=ZR r.arg:=by
   unfold j6
   rw [kq (by trivial),kq (by trivial),kq (by trivial),kr rfl]
  rw [e] at hfit
  obtain ⟨n,h1,h2,h3⟩:=qo hfit
  exact ⟨n,h1,by lia,h3⟩
theorem Zb {K:ko} {H H':Hp} {a:Addr} {xs:List V} (s:Same H H') (h:SqT K H a xs):SqT K H' a xs:=by
 rcases h with (h | ⟨o,h⟩) | h
 ·exact .inl (.inl (s _ _ h))
 ·exact .inl (.inr ⟨o,s _ _ h⟩)
 ·exact .inr h
section
def spUp (K:ko):Sp:=fun vs H Q _=>∃(g:Addr) (as:List Addr),vs=[.ref g]∧SqT K H g (as.map V.ref)∧((as=[]∧Q .non H)∨∃bs a,as=bs++[a]∧Q (.ref a) H)
theorem sc42:zn ["guards"] ["guards"] (ze (top 42)):=fsM
theorem z84 (D:zi K mg "uppermost" (top 42)):FN P w K mg base 1 "uppermost" ["guards"] (spUp K):=by
 refine FN.o D sc42 fun f cdv A outer s H vs Q E hr h=>?_
 obtain ⟨g,as,rfl,hS,q⟩:=h
 refine ⟨_,zf (zv (j9 (ZV (pv 0) (fun _=>rfl)) (qa qH (pv 0) (JC ZF zh) (fun _ _=>rfl)) qU)),?_⟩
 rcases q with ⟨rfl,q⟩ | ⟨bs,a,rfl,q⟩
 ·exact ⟨_,rfl,false,.inr (.inl ⟨_,hS,rfl⟩),iteF q⟩
 ·refine ⟨_,rfl,true,.inr (.inl ⟨_,hS,by simp⟩),iteT ⟨_,rfl,1,rfl,g,_,_,.ref a,rfl,rfl,hS,?_,q⟩⟩
  rw [kG]
  exact z1p _ _
def z0n:Sp:=fun vs H Q _=>∃a r,vs=[.ref a]∧H a=some (.tup (tupV r))∧ZQ r∧∀H',Same H H'→Q (.int (qD r)) H'
theorem sc43:zn ["row","op","arg"] ["row"] (ze (top 43)):=fsM
theorem z4N (D:zi K mg "depth_asked" (top 43)) (T:z2a w K mg):FN P w K mg base 1 "depth_asked" ["row"] z0n:=by
 refine FN.o D sc43 fun f cdv A outer s H vs Q E hr h=>?_
 obtain ⟨a,r,rfl,ha,hok,q⟩:=h
 obtain ⟨d,md,td⟩:=T.takes
 refine ⟨_,z8 (Qz (i:=1) (j:=2) rfl sc43.nd rfl rfl (by decide) rfl rfl (z6 (qa qH (pv 0) zh (fun _ _=>rfl)) (z6 (qa qH (pv 0) zh (fun _ _=>rfl)) z7)) rfl)
  (zf (zv (j9 (zr qO (pv 1) (qY (z6 zq (z6 zq z7))) rfl) (pv 2) (ZW td rfl md (pv 1) zh ⟨rfl,rfl,rfl,rfl⟩)))),?_⟩
 refine ⟨_,rfl,a,_,_,_,rfl,rfl,SqT.of ha,zy (j:=0) rfl,_,rfl,a,_,_,_,rfl,rfl,SqT.of ha,zy (j:=1) rfl,_,_,rfl,?_⟩
 refine ⟨_,rfl,by show 2≤sizeLine;decide,fun p hp=>?_⟩
 have s1:=zk hp (.tup (jr.map V.str))
 refine ⟨p,_,rfl,.inr (SqT.of (xs:=jr.map V.str) zb),rfl,jk _,_,rfl,?_⟩
 have q:=q _ s1
 unfold qD at q
 refine ite2 (fun c=>?_) (fun c=>?_)
 ·have c':inT r.op jr=true:=c
  obtain ⟨n,en,_⟩:=z22 hok c'
  rw [kr c',en] at q
  refine ⟨r.arg,rfl,?_⟩
  rw [en]
  exact q
 ·have c':¬inT r.op jr=true:=c
  rw [kq c'] at q
  refine ⟨_,rfl,r.op,rfl,?_⟩
  rw [Zn]
  exact q
def z0k:Sp:=fun vs H Q _=>∃a r d,vs=[.ref a,.int d]∧H a=some (.tup (tupV r))∧ZQ r∧∀H',Same H H'→Q (.bl (decide (d < qD r))) H'
theorem sc44:zn ["row","depth"] ["row","depth"] (ze (top 44)):=fsM
theorem z4J (D:zi K mg "lacks_values" (top 44)) (F1:FN P w K mg base 1 "depth_asked" ["row"] z0n):FN P w K mg base 2 "lacks_values" ["row","depth"] z0k:=by
 refine FN.o D sc44 fun f cdv A outer s H vs Q E hr h=>?_
 obtain ⟨a,r,d,rfl,ha,hok,q⟩:=h
 refine ⟨_,zf (zv (qZ Qt (pv 1) (zp F1 hr rfl (z6 (pv 0) z7)) (zB _))),?_⟩
 exact ⟨_,rfl,_,rfl,a,r,rfl,ha,hok,fun H' s'=>⟨_,_,rfl,rfl,q H' s'⟩⟩
def z0l:Sp:=fun vs H Q _=>∃a r gv og,vs=[.ref a,gv]∧H a=some (.tup (tupV r))∧jH H gv og∧Q (.bl (Qj r og)) H
theorem sc45:zn ["row","guard"] ["row","guard"] (ze (top 45)):=fsM
theorem z3h {H:Hp} {x:V} {og:Option Gd} (h:jH H x og):decide (x=.non)=og.isNone:=by
 cases og with
 | none=>rw [show x=.non from h];rfl
 | some g=>obtain ⟨a,e,_⟩:=h;rw [e];rfl
theorem z4K (D:zi K mg "lacks_guard" (top 45)):FN P w K mg base 1 "lacks_guard" ["row","guard"] z0l:=by
 refine FN.o D sc45 fun f cdv A outer s H vs Q E hr h=>?_
 obtain ⟨a,r,gv,og,rfl,ha,hg,q⟩:=h
 refine ⟨_,zf (zv (jh (qZ jA (qa qH (pv 0) zh (fun _ _=>rfl)) zq (zB _)) (jg (qZ QB (pv 1) qU (zB _))))),?_⟩
 refine ⟨_,rfl,a,_,_,_,rfl,rfl,SqT.of ha,zy (j:=0) rfl,rfl,_,rfl,?_⟩
 unfold Qj at q
 rw [←z3h hg] at q
 refine ite2 (fun c=>?_) (fun c=>?_)
 ·have e:r.op="endtry":=by have:=kw c;injection this
  rw [kg e,Bool.true_and] at q
  exact ⟨_,rfl,rfl,q⟩
 ·have e:¬r.op="endtry":=fun z=>c (by rw [z];rfl)
  rw [kf e,Bool.false_and] at q
  exact q
def Jt:Sp:=fun vs H Q _=>∃a r d gv og,vs=[.ref a,.int d,gv]∧H a=some (.tup (tupV r))∧ZQ r∧jH H gv og∧∀H',Same H H'→Q (.bl (qS r d og)) H'
theorem sc46:zn ["row","depth","guard","lowest"] ["row","depth","guard"] (ze (top 46)):=fsM
theorem z4V:bootBuiltins "max"=some (.builtin "max"):=by trivial
theorem z4U:bootBuiltins "min"=some (.builtin "min"):=by trivial
theorem z1Z (D:zi K mg "takes_beneath" (top 46)) (G:Glo mg) (F1:FN P w K mg base 1 "depth_asked" ["row"] z0n):FN P w K mg base 2 "takes_beneath" ["row","depth","guard"] Jt:=by
 refine FN.o D sc46 fun f cdv A outer s H vs Q E hr h=>?_
 obtain ⟨a,r,d,gv,og,rfl,ha,hok,hg,q⟩:=h
 refine ⟨_,z8 (qg (PW.pt (Qs (zr QB (pv 2) qU (zB _)) (Ze (zr jA (qa qH (pv 0) zh (fun _ _=>rfl)) zq (zB _))))) (zf (zv Qc)) zH)
  (z8 (zC (i:=3) sc46.nd rfl (Or.inl rfl) (zw (z3I rfl) rfl G.max z4V (z6 zh (z6 (zO j3 (pv 1) (zp F1 hr rfl (z6 (pv 0) z7))) z7))))
  (zf (zv (qZ Qt (pv 3) (zw (z3H rfl) rfl G.min z4U (z6 (pv 1) (z6 (qa qH (pv 2) zh (fun _ _=>rfl)) z7))) (zB _))))),?_⟩
 refine ⟨_,rfl,rfl,_,rfl,?_⟩
 cases og with
 | none=>
  have e:gv=.non:=hg
  subst e
  exact iteT (iteT (q H (Same.refl _)))
 | some g=>
  obtain ⟨ga,rfl,hga⟩:=hg
  refine iteF ⟨_,rfl,a,_,_,_,rfl,rfl,SqT.of ha,zy (j:=0) rfl,rfl,_,rfl,?_⟩
  unfold qS at q
  refine ite2 (fun c=>?_) (fun c=>?_)
  ·have e:r.op="copy":=by have:=kw c;injection this
   simp only [kr e] at q
   exact q H (Same.refl _)
  ·have e:¬r.op="copy":=fun z=>c (by rw [z];rfl)
   simp only [kq e] at q
   refine ⟨_,rfl,_,rfl,a,r,rfl,ha,hok,fun H' s'=>⟨_,_,rfl,rfl,_,_,rfl,?_⟩⟩
   exact ⟨_,rfl,_,rfl,_,rfl,ga,_,_,_,rfl,rfl,SqT.of (s' _ _ hga),zy (j:=1) rfl,_,_,rfl,_,_,rfl,rfl,q H' s'⟩
end
theorem PS.imp {X:Cx} {st:Stmt} {t t':TS} (h:PS X st t) (hi:∀D σ H,t' D σ H→t D σ H):PS X st t':=fun pins s σ H D I q=>h pins s σ H D I (hi D σ H q)
theorem PE.imp {X:Cx} {e:Expr} {t t':TE} (h:PE X e t) (hi:∀σ H Q,t' σ H Q→t σ H Q):PE X e t':=fun pins s σ H Q I q=>h pins s σ H Q I (hi σ H Q q)
abbrev Mv:=V × Int × Int
abbrev Z7 (H:Hp):List Addr→List Mv→Prop:=Paired fun t m=>H t=some (.tup [m.1,.int m.2.1,.int m.2.2])
theorem Z7.same {H H':Hp} {ts:List Addr} {ms:List Mv} (h:Z7 H ts ms) (k:∀a xs,H a=some (.tup xs)→H' a=some (.tup xs)):Z7 H' ts ms:=Paired.mapP h fun _ _ e=>k _ _ e
theorem Z7.append {H:Hp} {as bs:List Addr} {rs ts:List Mv} (h:Z7 H as rs) (k:Z7 H bs ts):Z7 H (as++bs) (rs++ts):=z0T h k
theorem Z7.get {H:Hp} {as:List Addr} {rs:List Mv} {i:Nat} {x:V} (h:Z7 H as rs) (e:(as.map V.ref)[i]?=some x):∃a r,x=.ref a∧rs[i]?=some r∧H a=some (.tup [r.1,.int r.2.1,.int r.2.2]):=z2H h e
noncomputable def qC (r:Row) (d:Int):Int:=d - tabI j8 r.op+tabI qX r.op
noncomputable def labV (rs:List Row) (m:Int):V:=match zG rs m with
 | some j=>.int (j:Nat)
 | none=>.non
noncomputable def argM (x:V):Int:=match x with
 | .int m=>m
 | _=>0
noncomputable def mv1 (r:Row) (place:Nat) (d:Int):List Mv:=if inT r.op qF=true then [] else [(.int ((place:Int)+1),qC r d,tabI qu r.op)]
noncomputable def mv2 (rs:List Row) (r:Row) (d:Int):List Mv:=if inT r.op jumping=true then [(labV rs (argM r.arg),if inT r.op leaving=true then d else qC r d,0)] else []
noncomputable def mv3 (rs:List Row) (r:Row) (og:Option Gd):List Mv:=if inT r.op faulting=true then (match og with | some g=>[(labV rs g.1,g.2+1,-1)] | none=>[]) else []
noncomputable def qG (rs:List Row) (place:Nat) (r:Row) (d:Int) (og:Option Gd):List Mv:=if decide (d < qD r)=true then [] else if Qj r og=true then [] else mv1 r place d++mv2 rs r d++mv3 rs r og
theorem z4u {rs:List Row} {i:Nat} {r:Row} (hc:Code rs) (hr:rs[i]?=some r) (h:inT r.op jumping=true):∃(m:Int) (j:Nat),r.arg=.int m∧zG rs m=some j:=by
 have hok:=hc.ok r (kD hr)
 obtain ⟨s,hs,hfit,_⟩:=hok.parts
 have hm:zZ r.op=some ("mark":Str)∧r.op≠"label":=by
  rw [z3f] at h
  have all:∀x∈jumping,zZ x=some ("mark":Str)∧x≠"label":=by trivial
  exact all _ h
 rw [hm.1] at hs
 cases hs
 obtain ⟨m,em,_,_⟩:=Zk hfit
 have hf:=hc.fit i r hr
 unfold ju at hf
 rw [kq hm.2,kr hm.1,em] at hf
 obtain ⟨j,hj⟩:=Option.isSome_iff_exists.mp hf
 exact ⟨m,j,em,hj⟩
def sMv (σ0:Addr→L2.St) (Hin:Hp) (new:List Mv):TS:=fun D σ H=>∃(fa:Addr) (ts:List Addr) (ms:List Mv),σ=σ0 fa∧Hin fa=none∧Same Hin H∧H fa=some (.lst (ts.map V.ref))∧Z7 H ts ms∧ts.length≤100∧
 ∀H' ts',Same Hin H'→H' fa=some (.lst (ts'.map V.ref))→Z7 H' ts' (ms++new)→ts'.length≤ts.length+1→D.nx (σ0 fa) H'
theorem z2Y {Hin H:Hp} {fa p:Addr} {ts:List Addr} {ms:List Mv} {m:Mv} (hn:Hin fa=none) (sm:Same Hin H) (hf:H fa=some (.lst (ts.map V.ref))) (hM:Z7 H ts ms) (hp:H p=none):
  Same Hin (upd (upd H p (.tup [m.1,.int m.2.1,.int m.2.2])) fa (.lst (ts.map V.ref++[.ref p])))∧upd (upd H p (.tup [m.1,.int m.2.1,.int m.2.2])) fa (.lst (ts.map V.ref++[.ref p])) fa=some (.lst ((ts++[p]).map V.ref))∧
   Z7 (upd (upd H p (.tup [m.1,.int m.2.1,.int m.2.2])) fa (.lst (ts.map V.ref++[.ref p]))) (ts++[p]) (ms++[m]):=by
 have npf:p≠fa:=(zc hf hp).symm
 have kt:∀a xs,(upd H p (.tup [m.1,.int m.2.1,.int m.2.2])) a=some (.tup xs)→(upd (upd H p (.tup [m.1,.int m.2.1,.int m.2.2])) fa (.lst (ts.map V.ref++[.ref p]))) a=some (.tup xs):=fun a xs e=>by
  rw [zg (fun z=>by rw [z,zg npf.symm,hf] at e;cases e)];exact e
 refine ⟨fun b o e=>?_,?_,Z7.append ((hM.same fun a xs e=>?_).same kt) (.cons ?_ .nil)⟩
 ·have e2:=sm b o e
  rw [zg (zc e hn),zg (zc e2 hp)]
  exact e2
 ·rw [zb,kG]
  rfl
 ·rw [zg (zc e hp)];exact e
 ·exact kt _ _ zb
section
structure jY (K:ko) (H:Hp) (l d:Addr) (rs:List Row):Prop where
 rows:∃as,SqL K H l (as.map V.ref)∧zP H as rs
 code:Code rs
 labs:∃kvs,H d=some (.dK kvs)∧Qq kvs rs
theorem jY.same {H H':Hp} {l d:Addr} {rs:List Row} (h:jY K H l d rs) (s:Same H H'):jY K H' l d rs:=by
 obtain ⟨⟨as,h1,h2⟩,hc,kvs,h3,h4⟩:=h
 exact ⟨⟨as,s.seq h1,h2.same s⟩,hc,kvs,s _ _ h3,h4⟩
theorem zP.get' {H:Hp} {as:List Addr} {rs:List Row} {i:Nat} {r:Row} (h:zP H as rs) (e:rs[i]?=some r):∃a,(as.map V.ref)[i]?=some (.ref a)∧H a=some (.tup (tupV r)):=by
 have hi:i < rs.length:=(ke.mp e).1
 obtain ⟨a,r',h1,h2,h3⟩:=zP.get (i:=i) (x:=(as.map V.ref)[i]'(by rw [kh,h.len];exact hi)) h (kH _)
 rw [e] at h2
 cases h2
 exact ⟨a,by rw [←h1];exact kH _,h3⟩
def z0i (K:ko):Sp:=fun vs H Q _=>∃l d place dep gv og rs r,vs=[.ref l,.ref d,.int (place:Nat),.int dep,gv]∧jY K H l d rs∧rs[place]?=some r∧jH H gv og∧
 ∀f ts H',Same H H'→H f=none→H' f=some (.lst (ts.map V.ref))→Z7 H' ts (qG rs place r dep og)→Q (.ref f) H'
theorem sc47:zn ["code","labels","place","depth","guard","row","op","arg","behind","found"] ["code","labels","place","depth","guard"] (ze (top 47)):=fsM
theorem z4H (D:zi K mg "moves" (top 47)) (T:z2a w K mg) (FV:FN P w K mg base 2 "lacks_values" ["row","depth"] z0k) (FG:FN P w K mg base 1 "lacks_guard" ["row","guard"] z0l):
  FN P w K mg base 3 "moves" ["code","labels","place","depth","guard"] (z0i K):=by
 refine FN.o D sc47 fun f cdv A outer s H vs Q E hr h=>?_
 obtain ⟨l,d,place,dep,gv,og,rs,r,rfl,hC,hrp,hg,q⟩:=h
 have hu:=z4v hr
 obtain ⟨⟨as,hS,hR⟩,hc,kvs,hd,hL⟩:=id hC
 obtain ⟨ra,hra,har⟩:=hR.get' hrp
 have hro:=hc.ok r (kD hrp)
 obtain ⟨d1,md1,td1⟩:=T.takes
 obtain ⟨d2,md2,td2⟩:=T.pushes
 obtain ⟨d3,md3,td3⟩:=T.gput
 obtain ⟨a1,ma1,ta1⟩:=T.never
 obtain ⟨a2,ma2,ta2⟩:=T.jumping
 obtain ⟨a3,ma3,ta3⟩:=T.leaving
 obtain ⟨a4,ma4,ta4⟩:=T.faulting
 let σ0:Addr→L2.St:=fun fa=>[some (.ref l),some (.ref d),some (.int (place:Nat)),some (.int dep),some gv,some (.ref ra),some (.str r.op),some r.arg,some (.int (qC r dep)),some (.ref fa)]
 refine ⟨_,z8 (zC (i:=5) sc47.nd rfl (Or.inl rfl) (qa zK (pv 0) (pv 2) (fun _ _=>rfl)))
  (z8 (Qz (i:=6) (j:=7) rfl sc47.nd rfl rfl (by decide) rfl rfl (z6 (qa qH (pv 5) zh (fun _ _=>rfl)) (z6 (qa qH (pv 5) zh (fun _ _=>rfl)) z7)) rfl)
  (z8 (qg (PW.pt (Qs (je (zp FV hr rfl (z6 (pv 5) (z6 (pv 3) z7)))) (Ze (je (zp FG (hr.mono (by decide)) rfl (z6 (pv 5) (z6 (pv 4) z7))))))) (zf (zv (qe z7))) zH)
  (z8 (zC (i:=8) sc47.nd rfl (Or.inl rfl) (zO ja (zO j3 (pv 3) (ZW td1 rfl md1 (pv 6) zh ⟨rfl,rfl,rfl,rfl⟩)) (ZW td2 rfl md2 (pv 6) zh ⟨rfl,rfl,rfl,rfl⟩)))
  (z8 (zC (i:=9) sc47.nd rfl (Or.inl rfl) (qe z7))
  (z8 (PS.imp (t':=sMv σ0 H (mv1 r place dep)) (qg (zr qN (pv 6) (Z3 rfl ma1 (v:=.ref a1) rfl) rfl) (zf (zj (jV (pv 9)
    (z6 (qY (z6 (zO ja (pv 2) zh) (z6 (pv 8) (z6 (ZW td3 rfl md3 (pv 6) zh ⟨rfl,rfl,rfl,rfl⟩) z7)))) z7)))) zH) ?m1)
  (z8 (PS.imp (t':=sMv σ0 H (mv2 rs r dep)) (qg (zr qO (pv 6) (Z3 rfl ma2 (v:=.ref a2) rfl) rfl) (zf (zj (jV (pv 9)
    (z6 (qY (z6 (QW hu (pv 1) (pv 7) (fun _ _=>rfl)) (z6 (j9 (zr qO (pv 6) (Z3 rfl ma3 (v:=.ref a3) rfl) rfl) (pv 3) (pv 8)) (z6 zh z7)))) z7)))) zH) ?m2)
  (z8 (PS.imp (t':=sMv σ0 H (mv3 rs r og)) (qg (PW.pt (Qy (zr qO (pv 6) (Z3 rfl ma4 (v:=.ref a4) rfl) rfl) (Zy (zr z0r (pv 4) qU (zB _))))) (zf (zj (jV (pv 9)
    (z6 (qY (z6 (z4e hu (pv 1) (qa qH (pv 4) zh (fun _ _=>rfl)) ⟨rfl,rfl,rfl,rfl⟩) (z6 (zO ja (qa qH (pv 4) zh (fun _ _=>rfl)) zh) (z6 (JC ZF zh) z7)))) z7)))) zH) ?m3)
  (zf (zv (pv 9)))))))))),?_⟩
 case m1=>
  rintro D σ H1 ⟨fa,ts,ms,rfl,hn,sm,hf,hM,hl,k⟩
  refine ⟨_,rfl,a1,_,rfl,.inr (ta1.sq _),rfl,jk _,_,rfl,?_⟩
  unfold mv1 at k
  refine ite2 (fun c=>?_) (fun c=>?_)
  ·have c':¬inT r.op qF=true:=by
    intro z
    have c:(!inT r.op qF)=true:=c
    rw [z] at c;cases c
   rw [kq c'] at k
   refine ⟨_,rfl,.inl ⟨rfl,_,SqL.of hf⟩,_,rfl,_,_,rfl,rfl,_,rfl,_,rfl,r.op,rfl,by show 3≤sizeLine;decide,fun p hp=>?_⟩
   rw [Zn]
   obtain ⟨k1,k2,k3⟩:=z2Y (m:=(.int ((place:Int)+1),qC r dep,tabI qu r.op)) hn sm hf hM hp
   exact ⟨fa,_,.ref p,rfl,rfl,by rw [zg (zc hf hp)];exact hf,q0 (by rw [kh];lia),k _ _ k1 k2 k3 (by simp)⟩
  ·have c':inT r.op qF=true:=by
    cases z:inT r.op qF with
    | true=>rfl
    | false=>exact absurd (show (!inT r.op qF)=true by rw [z];rfl) c
   rw [kr c'] at k
   exact k H1 ts sm hf (by rw [kQ];exact hM) (by lia)
 case m2=>
  rintro D σ H1 ⟨fa,ts,ms,rfl,hn,sm,hf,hM,hl,k⟩
  refine ⟨_,rfl,a2,_,rfl,.inr (ta2.sq _),rfl,jk _,_,rfl,?_⟩
  unfold mv2 at k
  refine ite2 (fun c=>?_) (fun c=>?_)
  ·have c':inT r.op jumping=true:=c
   rw [kr c'] at k
   obtain ⟨m,j,em,hj⟩:=z4u hc hrp c'
   have hv:valV kvs (Sum.inl m:Key)=some (.int (j:Int)):=by rw [hL m,hj];rfl
   have hgt:DGet H1 d r.arg (some (.int (j:Int))):=by rw [em,←hv];exact DGet.k (k:=Sum.inl m) (sm _ _ hd)
   refine ⟨_,rfl,.inl ⟨rfl,_,SqL.of hf⟩,_,rfl,_,rfl,d,_,rfl,hgt,_,rfl,a3,_,rfl,.inr (ta3.sq _),rfl,jk _,_,rfl,?_⟩
   have el:labV rs (argM r.arg)=.int (j:Nat):=by
    rw [em]
    show labV rs m=_
    unfold labV
    rw [hj]
   rw [el] at k
   have fin:∀x:Int,(if inT r.op leaving=true then dep else qC r dep)=x→∀p,H1 p=none→z0o (.ref fa) [.ref p] (upd H1 p (.tup [.int (j:Nat),.int x,.int 0])) (fun _ H2=>D.nx (σ0 fa) H2):=fun x ex p hp=>by
    rw [ex] at k
    obtain ⟨k1,k2,k3⟩:=z2Y (m:=(.int (j:Nat),x,0)) hn sm hf hM hp
    exact ⟨fa,_,.ref p,rfl,rfl,by rw [zg (zc hf hp)];exact hf,q0 (by rw [kh];lia),k _ _ k1 k2 k3 (by simp)⟩
   refine ite2 (fun c2=>?_) (fun c2=>?_)
   ·have c2':inT r.op leaving=true:=c2
    exact ⟨_,rfl,by show 3≤sizeLine;decide,fin dep (kr c2')⟩
   ·have c2':¬inT r.op leaving=true:=c2
    exact ⟨_,rfl,by show 3≤sizeLine;decide,fin _ (kq c2')⟩
  ·have c':¬inT r.op jumping=true:=c
   rw [kq c'] at k
   exact k H1 ts sm hf (by rw [kQ];exact hM) (by lia)
 case m3=>
  rintro D σ H1 ⟨fa,ts,ms,rfl,hn,sm,hf,hM,hl,k⟩
  refine ⟨_,rfl,a4,_,rfl,.inr (ta4.sq _),rfl,jk _,_,rfl,?_⟩
  unfold mv3 at k
  refine ite2 (fun c=>?_) (fun c=>?_)
  ·have c':inT r.op faulting=true:=c
   rw [kr c'] at k
   have hg1:=hg.same sm
   refine ⟨_,rfl,rfl,_,rfl,?_⟩
   cases og with
   | none=>
    have e:gv=.non:=hg
    rw [e]
    exact iteF (k H1 ts sm hf (by rw [kQ];exact hM) (by lia))
   | some g=>
    obtain ⟨ga,eg,hga⟩:=hg1
    rw [kf (show ¬gv=.non by rw [eg];exact nofun)]
    have hgt:DGet H1 d (.int g.1) (valV kvs (Sum.inl g.1:Key)):=DGet.k (k:=Sum.inl g.1) (sm _ _ hd)
    have ev:(valV kvs (Sum.inl g.1:Key)).getD .non=labV rs g.1:=by
     rw [hL]
     unfold labV
     cases zG rs g.1 <;> rfl
    have eσ:(σ0 fa)[4]?=some (some (.ref ga)):=by rw [←eg];rfl
    refine iteT ⟨_,rfl,.inl ⟨rfl,_,SqL.of hf⟩,_,rfl,d,rfl,.inl ⟨kvs,.inl (sm _ _ hd)⟩,_,eσ,ga,_,_,_,rfl,rfl,SqT.of hga,zy (j:=0) rfl,_,hgt,_,eσ,ga,_,_,_,rfl,rfl,SqT.of hga,zy (j:=1) rfl,_,_,rfl,rfl,1,rfl,by show 3≤sizeLine;decide,fun p hp=>?_⟩
    rw [ev]
    obtain ⟨k1,k2,k3⟩:=z2Y (m:=(labV rs g.1,g.2+1,-1)) hn sm hf hM hp
    exact ⟨fa,_,.ref p,rfl,rfl,by rw [zg (zc hf hp)];exact hf,q0 (by rw [kh];lia),k _ _ k1 k2 k3 (by simp)⟩
  ·have c':¬inT r.op faulting=true:=c
   rw [kq c'] at k
   exact iteF (k H1 ts sm hf (by rw [kQ];exact hM) (by lia))
 refine ⟨_,rfl,_,rfl,l,_,_,_,rfl,rfl,hS,zy hra,?_⟩
 refine ⟨_,rfl,ra,_,_,_,rfl,rfl,SqT.of har,zy (j:=0) rfl,_,rfl,ra,_,_,_,rfl,rfl,SqT.of har,zy (j:=1) rfl,_,_,rfl,?_⟩
 refine ⟨_,rfl,_,rfl,ra,r,dep,rfl,har,hro,fun H1 s1=>⟨_,rfl,?_⟩⟩
 have empty:∀H2,Same H H2→qG rs place r dep og=[]→∀p,H2 p=none→Q (.ref p) (upd H2 p (.lst [])):=fun H2 s2 e p hp=>by
  refine q p [] _ (My.Same.upd s2 (s2.free hp) _) (s2.free hp) zb ?_
  rw [e]
  exact .nil
 unfold qG at q empty
 refine ite2 (fun c=>?_) (fun c=>?_)
 ·rw [kr c] at empty
  exact iteT ⟨by show 0≤sizeLine;decide,empty H1 s1 rfl⟩
 ·rw [kq c] at q empty
  refine ⟨_,rfl,_,rfl,ra,r,gv,og,rfl,s1 _ _ har,hg.same s1,_,rfl,?_⟩
  refine ite2 (fun c2=>?_) (fun c2=>?_)
  ·rw [kr c2] at empty
   exact ⟨by show 0≤sizeLine;decide,empty H1 s1 rfl⟩
  ·rw [kq c2] at q
   refine ⟨_,rfl,_,rfl,r.op,rfl,?_⟩
   rw [Zn]
   refine ⟨_,_,rfl,rfl,_,rfl,r.op,rfl,?_⟩
   rw [Zn]
   refine ⟨_,_,rfl,rfl,by show 0≤sizeLine;decide,fun fa hfa=>?_⟩
   have hn:=s1.free hfa
   refine ⟨fa,[],[],rfl,hn,My.Same.upd s1 hn _,zb,.nil,by simp,fun H3 t3 s3 f3 M3 z3=>?_⟩
   refine ⟨fa,t3,_,rfl,hn,s3,f3,M3,by simp at z3;lia,fun H4 t4 s4 f4 M4 z4=>?_⟩
   refine ⟨fa,t4,_,rfl,hn,s4,f4,M4,by simp at z3;lia,fun H5 t5 s5 f5 M5 z5=>?_⟩
   exact ⟨_,rfl,q fa t5 H5 s5 hn f5 (by simpa using M5)⟩
end
theorem Zz {X:Cx} {pos:Pos} {K:ko} {es:List Expr} {k:Nat} {t:TGs} {n:Nat} (hK:X.K=K) (hc:X.calm=true) (h:PGs X es t)
  (hn:autoParam ((assignEach es X.env).length=n) aR._auto_1) (hst:autoParam ((assignEach es X.env).findIdx? (·.1)=none) aR._auto_1):PG X (.Tuple es k pos) (gTup K n t):=by
 subst hK
 exact jU hc h hn hst
theorem Q2 {σ:L2.St} {H:Hp} {F G:Hp→Prop} (h:F H):tAll σ H (fun b H5=>if b=true then F H5 else G H5):=by
 show (if true=true then F H else G H)
 rw [kr rfl]
 exact h
theorem nd3:(["goal","deeper","more"]:List Str).Nodup:=by trivial
theorem nd2:(["word","is_lacking"]:List Str).Nodup:=by trivial
theorem qf.plain {X:Cx} {N:List Str} {nt:Nat} {scope:Scope} (nofree:∀y∈scope.names,y.2≠.free) (nocell:∀y∈scope.names,y.2≠.cell) (kind:scope.kind=.function) (names:∀y∈scope.names,y.2=.local→scope.names.lookup y.1=some .local) (hl:N.length=nt):qf X N nt [] scope [] where
 clos:=closureFor_none nofree
 nocell:=nocell
 kind:=kind
 names:=names
 sub:=fun _ _ e=>nomatch e
 has:=fun x h=>by
  rw [z1w nofree] at h
  rcases h with h | h
  ·exact absurd h (JK nocell x)
  ·exact absurd h (JK nofree x)
 len:=by rw [hl];rfl
 free:=fun j x e=>by
  rw [List.getElem?_eq_none (by lia)] at e
  cases e
theorem jR {K:ko} {a:Addr} {xs:List V} {g:TG} {tc:TT} {te:TE} {R:Hp→Prop} {H:Hp} {l:Addr} {σ0:L2.St} (Pv:Nat→List V→L2.St→Hp→Prop) (h0:Pv 0 [] σ0 (upd H l (.lst []))) (hl:∀i ys σ H,i≤xs.length→Pv i ys σ H→SqL K H a xs)
  (hs:∀i x ys σ H,xs[i]?=some x→Pv i ys σ H→g x σ H fun σ2 H4=>tc σ2 H4 fun b H5=>if b=true then te σ2 H5 fun v H6=>H6 l=some (.lst ys)∧ys.length < sizeLine∧∃m',m' < xs.length - i∧m'=xs.length - (i+1)∧i+1≤xs.length∧Pv (i+1) (ys++[v]) σ2 (upd H6 l (.lst (ys++[v])))
   else ∃m',m' < xs.length - i∧m'=xs.length - (i+1)∧i+1≤xs.length∧Pv (i+1) ys σ2 H5) (hd:∀ys σ H,Pv xs.length ys σ H→R H):
  ∃W:Nat→Nat→List V→L2.St→Hp→Prop,(∃m,W 0 m [] σ0 (upd H l (.lst [])))∧∀i m ys σ' H2,W i m ys σ' H2→
   ((Itl K a).stop i H2∧R H2)∨((Itl K a).go i H2∧∀x H3,(Itl K a).yld i H2 x H3→g x σ' H3 fun σ2 H4=>tc σ2 H4 fun b H5=>if b=true then te σ2 H5 fun v H6=>H6 l=some (.lst ys)∧ys.length < sizeLine∧∃m',m' < m∧W (i+1) m' (ys++[v]) σ2 (upd H6 l (.lst (ys++[v])))
    else ∃m',m' < m∧W (i+1) m' ys σ2 H5):=by
 refine ⟨fun i m ys σ H=>m=xs.length - i∧i≤xs.length∧Pv i ys σ H,⟨xs.length,by simp,Nat.zero_le _,h0⟩,?_⟩
 rintro i m ys σ H ⟨rfl,hi,p⟩
 have q:=hl i ys σ H hi p
 by_cases hlt:i < xs.length
 ·refine .inr ⟨⟨xs,xs[i],q,by simp [hlt]⟩,fun x H' y=>?_⟩
  obtain ⟨e,y⟩:=y
  subst e
  exact hs i x ys σ _ (y xs q) p
 ·have e:i=xs.length:=by lia
  subst e
  exact .inl ⟨⟨xs,q,kc _⟩,hd ys σ H p⟩
theorem z23 {a l:Addr} {kvs:List (Key × V)} {o:Obj} {g:TG} {tc:TT} {te:TE} {Q:VK} {H:Hp} {σ0:L2.St} (Pv:Nat→List V→L2.St→Hp→Prop) (h0:Pv 0 [] σ0 (upd H l (.lst []))) (hf:∀i ys σ H,Pv i ys σ H→H a=some (.frz o (.dK kvs)))
  (hs:∀i p k v ys σ H,kvs[i]?=some (k,v)→Pv i ys σ H→H p=none→g (.ref p) σ (upd H p (.tup [kV k,v])) fun σ2 H4=>tc σ2 H4 fun b H5=>if b=true then te σ2 H5 fun v H6=>H6 l=some (.lst ys)∧ys.length < sizeLine∧∃m',m' < kvs.length - i∧m'=kvs.length - (i+1)∧i+1≤kvs.length∧Pv (i+1) (ys++[v]) σ2 (upd H6 l (.lst (ys++[v])))
   else ∃m',m' < kvs.length - i∧m'=kvs.length - (i+1)∧i+1≤kvs.length∧Pv (i+1) ys σ2 H5) (hd:∀ys σ H,Pv kvs.length ys σ H→Q (.ref l) (upd H a (.dK kvs))):
  ∃W:Nat→Nat→List V→L2.St→Hp→Prop,(∃m,W 0 m [] σ0 (upd H l (.lst [])))∧∀i m ys σ' H2,W i m ys σ' H2→
   H2 a=some (.frz o (.dK kvs))∧(kvs.length≤i→Q (.ref l) (upd H2 a (.dK kvs)))∧(∀p k v,kvs[i]?=some (k,v)→H2 p=none→g (.ref p) σ' (upd H2 p (.tup [kV k,v])) fun σ2 H4=>tc σ2 H4 fun b H5=>if b=true then te σ2 H5 fun v H6=>H6 l=some (.lst ys)∧ys.length < sizeLine∧∃m',m' < m∧W (i+1) m' (ys++[v]) σ2 (upd H6 l (.lst (ys++[v])))
    else ∃m',m' < m∧W (i+1) m' ys σ2 H5):=by
 refine ⟨fun i m ys σ H=>m=kvs.length - i∧i≤kvs.length∧Pv i ys σ H,⟨kvs.length,by simp,Nat.zero_le _,h0⟩,?_⟩
 rintro i m ys σ H ⟨rfl,hi,p⟩
 refine ⟨hf i ys σ H p,fun hle=>?_,fun p' k v hkv hp=>hs i p' k v ys σ H hkv p hp⟩
 have e:i=kvs.length:=by lia
 subst e
 exact hd ys σ H p
noncomputable def Q1 (rs:List Row) (place:Nat) (r:Row) (d:Int) (og:Option Gd):List (Str × Bool):=
 [("takes",decide (d < qD r)),("guard",Qj r og),("beneath",qS r d og),("end",inV (.int (rs.length:Nat)) ((qG rs place r d og).map (·.1)))]
noncomputable def jt (rs:List Row) (place:Nat) (r:Row) (d:Int) (og:Option Gd):List Str:=((Q1 rs place r d og).filter (·.2)).map (·.1)
theorem JM (rs:List Row) (m:Int):ZC (labV rs m)=true:=by
 unfold labV
 cases zG rs m <;> rfl
theorem z1J (rs:List Row) (place:Nat) (r:Row) (d:Int) (og:Option Gd):((qG rs place r d og).map (·.1)).all ZC=true:=by
 rw [List.all_map,List.all_eq_true]
 intro m hm
 unfold qG at hm
 split at hm
 ·cases hm
 ·split at hm
  ·cases hm
  ·rcases kO.mp hm with hm | hm
   ·rcases kO.mp hm with hm | hm
    ·unfold mv1 at hm
     split at hm
     ·cases hm
     ·rw [kl.mp hm];rfl
    ·unfold mv2 at hm
     split at hm
     ·rw [kl.mp hm];exact JM _ _
     ·cases hm
   ·unfold mv3 at hm
    split at hm
    ·cases og with
     | none=>cases hm
     | some g=>rw [kl.mp hm];exact JM _ _
    ·cases hm
noncomputable def kvs4 (wb:List (Str × Bool)):List (Key × V):=wb.map fun p=>(Sum.inr p.1,V.bl p.2)
theorem z77 (a b c d:Bool):ZI [] (kvs4 [("takes",a),("guard",b),("beneath",c),("end",d)])=kvs4 [("takes",a),("guard",b),("beneath",c),("end",d)]:=by rfl
section
def z2r (K:ko):Sp:=fun vs H Q _=>∃l d place dep gv og rs r,vs=[.ref l,.ref d,.int (place:Nat),.int dep,gv]∧jY K H l d rs∧rs[place]?=some r∧jH H gv og∧
 ∀f H',Same H H'→H f=none→H' f=some (.lst ((jt rs place r dep og).map V.str))→Q (.ref f) H'
theorem sc48:zn ["code","labels","place","depth","guard","row","goals","found"] ["code","labels","place","depth","guard"] (ze (top 48)):=fsM
theorem z4B (D:zi K mg "words_lacking" (top 48)) (G:Glo mg) (FV:FN P w K mg base 2 "lacks_values" ["row","depth"] z0k) (FG:FN P w K mg base 1 "lacks_guard" ["row","guard"] z0l) (FB:FN P w K mg base 2 "takes_beneath" ["row","depth","guard"] Jt)
  (FM:FN P w K mg base 3 "moves" ["code","labels","place","depth","guard"] (z0i K)):FN P w K mg base 4 "words_lacking" ["code","labels","place","depth","guard"] (z2r K):=by
 refine FN.o D sc48 fun f cdv A outer s H vs Q E hr h=>?_
 obtain ⟨l,d,place,dep,gv,og,rs,r,rfl,hC,hrp,hg,q⟩:=h
 obtain ⟨⟨as,hS,hR⟩,hc,kvs,hd,hL⟩:=id hC
 obtain ⟨ra,hra,har⟩:=hR.get' hrp
 have hro:=hc.ok r (kD hrp)
 have hr2:=hr.mono (show 2≤3 by decide)
 have hr1:=hr.mono (show 1≤3 by decide)
 refine ⟨_,z8 (zC (i:=5) sc48.nd rfl (Or.inl rfl) (qa zK (pv 0) (pv 2) (fun _ _=>rfl)))
  (z8 (jp (N:=["goal","deeper","more"]) (nt:=3) (ix:=[]) (cl:=[]) (i:=6) rfl sc48.nd rfl (Or.inl rfl) (qf.plain (by trivial) (by trivial) rfl (by trivial) rfl)
   (jd (zp FM hr rfl (z6 (pv 0) (z6 (pv 1) (z6 (pv 2) (z6 (pv 3) (z6 (pv 4) z7)))))))
   (fun _ _ _ _=>Zz (K:=K) (n:=3) rfl rfl (zA (zu (i:=0) nd3 rfl (Or.inl rfl)) (zA (zu (i:=1) nd3 rfl (Or.inl rfl)) (zA (zu (i:=2) nd3 rfl (Or.inl rfl)) qA))))
   (fun _ _ _ _=>Q7) (fun _ _ _ _=>pv 0))
  (z8 (zC (i:=7) sc48.nd rfl (Or.inl rfl) (z2R (Zf zq (zp FV hr2 rfl (z6 (pv 5) (z6 (pv 3) z7))) (Zf zq (zp FG hr1 rfl (z6 (pv 5) (z6 (pv 4) z7)))
    (Zf zq (zp FB hr2 rfl (z6 (pv 5) (z6 (pv 3) (z6 (pv 4) z7)))) (Zf zq (qZ qO (zw zx rfl G.len zS (z6 (pv 0) z7)) (pv 6) rfl) z2I)))) rfl rfl nofun (by decide)))
  (zf (zv (z4f (N:=["word","is_lacking"]) (nt:=2) (ix:=[]) (cl:=[]) rfl (qf.plain (by trivial) (by trivial) rfl (by trivial) rfl) (pv 7)
   (fun _ _ _ _=>Zz (K:=K) (n:=2) rfl rfl (zA (zu (i:=0) nd2 rfl (Or.inl rfl)) (zA (zu (i:=1) nd2 rfl (Or.inl rfl)) qA)))
   (fun _ _ _ _=>Q6 (je (pv 1))) (fun _ _ _ _=>pv 0)))))),?_⟩
 refine ⟨_,rfl,_,rfl,l,_,_,_,rfl,rfl,hS,zy hra,?_⟩
 refine ⟨_,rfl,_,rfl,_,rfl,_,rfl,_,rfl,l,d,place,dep,gv,og,rs,r,rfl,hC,hrp,hg,fun ml ts H1 s1 hn1 hm1 hM1=>?_⟩
 generalize hms:qG rs place r dep og=ms at hM1
 refine ⟨ml,rfl,⟨_,SqL.of hm1⟩,fun gl hgl=>jR (K:=K) (a:=ml) (xs:=ts.map V.ref) (fun i ys σ H2=>(∃a b c,σ=[a,b,c])∧ys=(ms.take i).map (·.1)∧Same H1 H2∧H2 gl=some (.lst ys))
  ⟨⟨none,none,none,rfl⟩,rfl,zk hgl _,zb⟩ (fun i ys σ H2 _ ⟨_,_,s2,_⟩=>s2.seq (SqL.of hm1)) ?_ ?_⟩
 ·rintro i x ys σ H2 hi ⟨⟨a,b,c,rfl⟩,rfl,s2,hp2⟩
  obtain ⟨t,m,rfl,hm,ht⟩:=(hM1.same fun a xs e=>s2 _ _ e).get hi
  have hil:i < ts.length:=by have:=(ke.mp hi).1;simpa using this
  have hml:ts.length=ms.length:=Paired.length hM1
  refine ⟨t,_,rfl,SqT.of ht,rfl,_,_,rfl,_,_,rfl,_,_,rfl,rfl,?_⟩
  refine Q2 ⟨_,rfl,hp2,?_,_,?_,rfl,?_,⟨_,_,_,rfl⟩,?_,?_,zb⟩
  ·rw [kh,List.length_take]
   have h1:ms.length≤3:=by
    rw [←hms]
    unfold qG mv1 mv2 mv3
    repeat' split
    all_goals simp
   exact q0 (by lia)
  ·rw [kh];lia
  ·rw [kh];lia
  ·rw [qj hm,kG];rfl
  ·exact My.Same.upd s2 hgl _
 ·rintro ys σ H2 ⟨_,rfl,s2,hp2⟩
  have hml:ts.length=ms.length:=Paired.length hM1
  rw [kh,hml,List.take_length] at hp2
  have s02:=s1.trans s2
  intro fd hfd
  have hgl0:H gl=none:=s1.free hgl
  have hfd0:H fd=none:=s02.free hfd
  have s3:=zk hfd (.dK [])
  refine ⟨_,rfl,_,rfl,ra,r,dep,rfl,s3 _ _ (s02 _ _ har),hro,fun H4 s4=>?_⟩
  have s24:=s3.trans s4
  refine ⟨_,rfl,_,rfl,ra,r,gv,og,rfl,s24 _ _ (s02 _ _ har),(hg.same s02).same s24,?_⟩
  refine ⟨_,rfl,_,rfl,_,rfl,ra,r,dep,gv,og,rfl,s24 _ _ (s02 _ _ har),hro,(hg.same s02).same s24,fun H5 s5=>?_⟩
  have s25:=s24.trans s5
  refine ⟨_,rfl,l,_,rfl,.inl (s25.seq (s02.seq hS)),_,rfl,gl,_,rfl,.inl (SqL.of (s25 _ _ hp2)),rfl,by rw [←hms];exact z1J _ _ _ _ _,?_⟩
  refine ⟨s5 _ _ (s4 _ _ zb),kvs4 (Q1 rs place r dep og),?_,(by show 4≤15;decide),?_⟩
  ·unfold Q1 kvs4
   rw [hms,kh,hR.len]
   rfl
  ·rw [show ZI [] (kvs4 (Q1 rs place r dep og))=kvs4 (Q1 rs place r dep og) from z77 _ _ _ _]
   generalize hwb:Q1 rs place r dep og=wb
   have hwl:wb.length=4:=by rw [←hwb];rfl
   have sH5:Same H H5:=s02.trans s25
   refine ⟨_,rfl,fd,kvs4 wb,rfl,zb,fun o l2 hl2=>?_⟩
   have nlf:l2≠fd:=fun z=>by rw [z,zb] at hl2;cases hl2
   have hl20:H l2=none:=sH5.free (by rw [zg nlf] at hl2;exact hl2)
   refine z23 (fun i ys σ H2=>(∃a b,σ=[a,b])∧ys=((wb.take i).filter (·.2)).map (fun p=>V.str p.1)∧Same H H2∧H2 l2=some (.lst ys)∧H2 fd=some (.frz o (.dK (kvs4 wb)))) ⟨⟨none,none,rfl⟩,rfl,?_,zb,?_⟩ (fun i ys σ H2 h=>h.2.2.2.2) ?_ ?_
   ·intro b o e
    rw [zg (zc e hl20),zg (zc e hfd0),zg (zc e hfd0)]
    exact sH5 _ _ e
   ·rw [zg nlf.symm];exact zb
   ·rintro i p k v ys σ H2 hi ⟨⟨a,b,rfl⟩,rfl,s2',hp2',hf2⟩ hp
    have hil:i < 4:=by have:=(ke.mp hi).1;unfold kvs4 at this;rw [kh,hwl] at this;exact this
    have hkl:(kvs4 wb).length=4:=by unfold kvs4;rw [kh,hwl]
    obtain ⟨pw,hpw,ek⟩:∃pw:Str × Bool,wb[i]?=some pw∧(k,v)=(Sum.inr pw.1,V.bl pw.2):=by
     unfold kvs4 at hi
     rw [List.getElem?_map] at hi
     cases e:wb[i]? with
     | none=>rw [e] at hi;cases hi
     | some pw=>rw [e] at hi;exact ⟨pw,rfl,(ku hi).symm⟩
    cases ek
    have npl:l2≠p:=zc hp2' hp
    have npf:fd≠p:=zc hf2 hp
    have sp:Same H (upd H2 p (.tup [kV (Sum.inr pw.1),V.bl pw.2])):=fun b o e=>by rw [zg (zc (s2' _ _ e) hp)];exact s2' _ _ e
    refine ⟨p,_,rfl,SqT.of zb,rfl,_,_,rfl,_,_,rfl,rfl,_,rfl,pw.2,rfl,?_⟩
    have efil:(wb.take (i+1)).filter (·.2)=(wb.take i).filter (·.2)++(if pw.2=true then [pw] else []):=by
     rw [qj hpw,List.filter_append]
     congr 1
     cases hh:pw.2 <;> simp [hh]
    refine ite2 (fun c=>?_) (fun c=>?_)
    ·rw [kr c] at efil
     refine ⟨_,rfl,by rw [zg npl];exact hp2',?_,_,by lia,rfl,by lia,⟨_,_,rfl⟩,?_,?_,zb,?_⟩
     ·rw [kh]
      have h1:=List.length_filter_le (fun p:Str × Bool=>p.2) (wb.take i)
      rw [List.length_take] at h1
      exact q0 (by lia)
     ·rw [efil,kG];rfl
     ·exact fun b o e=>by rw [zg (zc e hl20)];exact sp _ _ e
     ·rw [zg nlf.symm,zg npf];exact hf2
    ·rw [kq c,kQ] at efil
     exact ⟨_,by lia,rfl,by lia,⟨_,_,rfl⟩,by rw [efil],sp,by rw [zg npl];exact hp2',by rw [zg npf];exact hf2⟩
   ·rintro ys σ H2 ⟨_,rfl,s2',hp2',hf2⟩
    refine q l2 _ (fun b o e=>?_) hl20 ?_
    ·rw [zg (zc e hfd0)];exact s2' _ _ e
    ·rw [zg nlf,hp2']
     unfold jt
     rw [hwb,show (kvs4 wb).length=wb.length by unfold kvs4;rw [kh],List.take_length,List.map_map]
     rfl
end
theorem sc50:zn ["code","labels","place","state","depth","guards"] ["code","labels","place","state"] (ze (top 50)):=fsM
noncomputable def z3D:Scope:=match (zW (top 50)).getD 1 (.Pass ⟨0,0,0,0⟩) with
 | .Return (some (.ListComp _ _ s _)) _=>s
 | _=>ze (top 50)
noncomputable def cl52 (L:Addr):List (Str × Addr):=[("state",L+1+1+1),("place",L+1+1),("code",L+1)]
noncomputable def nm52:List (Str × NameKind):=[(".0",.local),("goal",.local),("deeper",.local),("more",.local),("guards_behind",.globalImplicit),("code",.cell),("place",.cell),("state",.cell)]
noncomputable def N52:List Str:=["goal","deeper","more","code","place","state"]
theorem z7s (f:Addr) (cdv:Value) (L:Addr):closureFor z3D (envOfC "next_states" (ze (top 50)) L f cdv)=pure (cl52 L):=by rfl
theorem z7Q (f:Addr) (cdv:Value) (L:Addr):(relabel z3D (envOfC "next_states" (ze (top 50)) L f cdv)).names=nm52:=by rfl
theorem cs52 {P:Program} {w:World} {K:ko} {mg:Str→Option Value} {base:Heap} {f:Addr} {cdv:Value} {A:Around} {outer:List Env} {s:Shared} {H:Hp} {E:XK}:
  qf (cxOf CX0 P w K mg base ["code","labels","place","state","depth","guards"] "next_states" (ze (top 50)) f cdv A outer s H E).nox N52 3 [0,2,3] z3D (cl52 s.heap.objs.size) where
 clos:=z7s f cdv s.heap.objs.size
 nocell:=by trivial
 kind:=rfl
 names:=by trivial
 sub:=fun x c e=>e
 has:=fun x h=>by
  have e:=z7Q f cdv s.heap.objs.size
  have h:nm52.lookup x=some .cell∨nm52.lookup x=some .free:=by rw [←e];exact h
  have:x="code"∨x="place"∨x="state":=by
   rcases h with h | h
   ·have hm:=PySem.mem_of_lookup h
    simp only [nm52,ky,Prod.mk.injEq,km,or_false] at hm
    rcases hm with z | z | z | z | z | z | z | z
    all_goals first | exact .inl z.1 | exact .inr (.inl z.1) | exact .inr (.inr z.1) | exact z.2.elim | cases z.2
   ·have hm:=PySem.mem_of_lookup h
    simp only [nm52,ky,Prod.mk.injEq,km,or_false] at hm
    rcases hm with z | z | z | z | z | z | z | z
    all_goals first | exact z.2.elim | cases z.2
  rcases this with rfl | rfl | rfl
  ·exact ⟨_,rfl⟩
  ·exact ⟨_,rfl⟩
  ·exact ⟨_,rfl⟩
 len:=rfl
 free:=fun j x e=>by
  match j,e with
  | 0,e=>cases e;exact ⟨0,rfl,rfl,rfl,rfl,fun c h=>h⟩
  | 1,e=>cases e;exact ⟨2,rfl,rfl,rfl,rfl,fun c h=>h⟩
  | 2,e=>cases e;exact ⟨3,rfl,rfl,rfl,rfl,fun c h=>h⟩
  | j+3,e=>exact absurd e (by rw [List.getElem?_eq_none (by show 6≤3+(j+3);lia)];exact nofun)
abbrev GsIn (H:Hp):List Addr→List Gd→Prop:=Paired fun a p=>H a=some (.tup [.int p.1,.int p.2])
def GsAt (K:ko) (H:Hp) (g:Addr) (gs:List Gd):Prop:=∃as,SqT K H g (as.map V.ref)∧GsIn H as gs
abbrev Sta:=Int × List Gd
def StA (K:ko) (H:Hp) (a:Addr) (s:Sta):Prop:=∃g,SqT K H a [.int s.1,.ref g]∧GsAt K H g s.2
theorem GsIn.same {H H':Hp} {as:List Addr} {gs:List Gd} (h:GsIn H as gs) (s:Same H H'):GsIn H' as gs:=Paired.mapP h fun _ _ e=>s _ _ e
theorem GsAt.same {K:ko} {H H':Hp} {g:Addr} {gs:List Gd} (h:GsAt K H g gs) (s:Same H H'):GsAt K H' g gs:=let ⟨as,h1,h2⟩:=h;⟨as,Zb s h1,h2.same s⟩
theorem StA.same {K:ko} {H H':Hp} {a:Addr} {st:Sta} (h:StA K H a st) (s:Same H H'):StA K H' a st:=let ⟨g,h1,h2⟩:=h;⟨g,Zb s h1,h2.same s⟩
theorem GsIn.append {H:Hp} {as bs:List Addr} {gs hs:List Gd} (h:GsIn H as gs) (k:GsIn H bs hs):GsIn H (as++bs) (gs++hs):=z0T h k
theorem GsIn.dropLast {H:Hp} {as:List Addr} {gs:List Gd} (h:GsIn H as gs):GsIn H as.dropLast gs.dropLast:=by
 induction h with
 | nil=>exact .nil
 | cons h t ih=>
  cases t with
  | nil=>exact .nil
  | cons h2 t=>exact .cons h ih
theorem GsIn.last {H:Hp} {as:List Addr} {gs:List Gd} (h:GsIn H as gs):(as=[]∧gs=[])∨∃bs a g,as=bs++[a]∧gs.getLast?=some g∧H a=some (.tup [.int g.1,.int g.2]):=by
 induction h with
 | nil=>exact .inl ⟨rfl,rfl⟩
 | @cons a g as gs h t ih=>
  rcases ih with ⟨rfl,rfl⟩ | ⟨bs,a',g',e1,e2,e3⟩
  ·exact .inr ⟨[],a,g,rfl,rfl,h⟩
  ·refine .inr ⟨a :: bs,a',g',by rw [e1];rfl,?_,e3⟩
   cases gs with
   | nil=>cases e2
   | cons x y=>rw [List.getLast?_cons_cons];exact e2
section
variable {X:Cx}
def z7U (K:ko):R2:=fun x y H Q=>∃a b xs ys,x=.ref a∧y=.ref b∧SqT K H a xs∧SqT K H b ys∧ys≠[]∧xs.length+ys.length≤sizeLine∧(xs=[]→Q (.ref b) H)∧(xs≠[]→∀p,H p=none→Q (.ref p) (upd H p (.tup (xs++ys))))
theorem z5P:OpR X (binaryOp .Add) (z7U X.K):=by
 intro pins s σ H x y v u Q I rx ry h
 obtain ⟨a,b,xs,ys,rfl,rfl,ha,hb,hy,hz,q1,q2⟩:=h
 by_cases hx:xs=[]
 ·subst hx
  cases rx
  cases ry
  obtain ⟨its,r1,ht,_⟩:=I.tuple ha
  obtain ⟨its2,r2,ht2,_⟩:=I.tuple hb
  cases r1
  obtain ⟨⟨cls,dd,data,sl⟩,ho,hc,n,hd⟩:=id ht
  obtain ⟨⟨cls2,dd2,data2,sl2⟩,ho2,hc2,n2,hd2⟩:=id ht2
  simp only at hc hd hc2 hd2
  subst hc hd hc2 hd2
  exact concat_meets ⟨_,ho,rfl⟩ ⟨_,ho2,rfl⟩ noFill_tuple_add seq_tuple_add PySem.F.slot_tuple_add PySem.F.entry_tuple_add (PySem.F.args_tuple_add_2 _ _)
   (tuple_addW0 a b _ _ n n2 dd dd2 sl sl2 (by simp)) ⟨ho,ho2,.ref b,H,I,rfl,q1 rfl⟩
 ·exact z2W pins s σ H _ _ v u Q I rx ry ⟨a,b,xs,ys,rfl,rfl,ha,hb,hx,hz,fun z=>absurd z hy,fun _=>q2 hx⟩
theorem z53 {A:Around} {s:Shared} {l b:Addr} {vs ws:List Value} (hl:s.heap.IsTuple l vs.toArray) (hb:s.heap.IsTuple b ws.toArray) (hn:vs.length=ws.length) (hu:A.units < cLine)
  (he:∀j (h1:j < vs.length) (h2:j < ws.length),SeqAt.EqAt A.in1 s vs[j] ws[j] true):SeqAt.EqAt A s (.ref l) (.ref b) true:=by
 by_cases z:l=b
 ·subst z;exact SeqAt.EqAt.same _
 ·refine SeqAt.EqAt.of_refs z ?_
  have:=SeqAt.RcAt.tuples (e:=fun _=>true) hl hb hu (fun j h1 h2=>by
   have:=he j (by simpa using h1) (by simpa using h2)
   simpa using this)
  have e:((List.range (min vs.toArray.size ws.toArray.size)).all (fun _=>true)&&vs.toArray.size == ws.toArray.size)=true:=by simp [hn]
  rw [e] at this
  exact this
theorem z2g:∀{xs:List V} {vs ws:List Value} {A:Around} {s:Shared},Vals xs vs→Vals xs ws→(∀x∈xs,ZC x=true∧eqV x x=true)→∀j (h1:j < vs.length) (h2:j < ws.length),SeqAt.EqAt A s vs[j] ws[j] true
 | _,_,_,_,_,.nil,.nil,_,j,h1,_=>absurd h1 (Nat.not_lt_zero _)
 | x :: xs,_,_,A,s,.cons r t,.cons r' t',h,0,_,_=>by
  have e:=z3t (A:=A) (s:=s) r r' (h x (kM ..)).1 (h x (kM ..)).1
  rw [(h x (kM ..)).2] at e
  exact e
 | x :: xs,_,_,A,s,.cons r t,.cons r' t',h,j+1,h1,h2=>z2g t t' (fun y hy=>h y (kN _ hy)) j (by simpa using h1) (by simpa using h2)
theorem z4y {pins:List (Addr × Obj)} {σ:L2.St} {H:Hp} {s:Shared} {A:Around} {a b:Addr} {g:Gd} (I:Inv X pins σ H s) (ha:H a=some (.tup [.int g.1,.int g.2])) (hb:H b=some (.tup [.int g.1,.int g.2])) (hu:A.units < cLine):SeqAt.EqAt A s (.ref a) (.ref b) true:=by
 obtain ⟨vs,r1,t1,_⟩:=I.tuple (SqT.of ha)
 obtain ⟨ws,r2,t2,_⟩:=I.tuple (SqT.of hb)
 exact z53 t1 t2 (by rw [←r1.length,←r2.length]) hu fun j h1 h2=>z2g r1 r2 (fun x hx=>by
  rcases ky.mp hx with rfl | hx
  ·exact ⟨rfl,by show (g.1 == g.1)=true;simp⟩
  ·rw [kl.mp hx];exact ⟨rfl,by show (g.2 == g.2)=true;simp⟩) j h1 h2
theorem JQ {pins:List (Addr × Obj)} {σ:L2.St} {H:Hp} {s:Shared} {A:Around} (I:Inv X pins σ H s) (hu:A.units < cLine):∀{as bs:List Addr} {gs:List Gd} {vs ws:List Value},GsIn H as gs→GsIn H bs gs→Vals (as.map V.ref) vs→Vals (bs.map V.ref) ws→∀j (h1:j < vs.length) (h2:j < ws.length),SeqAt.EqAt A s vs[j] ws[j] true
 | _,_,_,_,_,.nil,.nil,.nil,.nil,j,h1,_=>absurd h1 (Nat.not_lt_zero _)
 | _,_,_,_,_,.cons h t,.cons h' t',.cons r rr,.cons r' rr',0,_,_=>by
  cases r
  cases r'
  exact z4y I h h' hu
 | _,_,_,_,_,.cons h t,.cons h' t',.cons r rr,.cons r' rr',j+1,h1,h2=>JQ I hu t t' rr rr' j (by simpa using h1) (by simpa using h2)
theorem z81 {pins:List (Addr × Obj)} {σ:L2.St} {H:Hp} {s:Shared} {A:Around} {a b:Addr} {gs:List Gd} (I:Inv X pins σ H s) (ha:GsAt X.K H a gs) (hb:GsAt X.K H b gs) (hu:A.units+1 < cLine):SeqAt.EqAt A s (.ref a) (.ref b) true:=by
 obtain ⟨as,h1,h2⟩:=ha
 obtain ⟨bs,h3,h4⟩:=hb
 obtain ⟨vs,r1,t1,_⟩:=I.tuple h1
 obtain ⟨ws,r2,t2,_⟩:=I.tuple h3
 have e1:=Paired.length h2
 have e2:=Paired.length h4
 refine z53 t1 t2 ?_ (by lia) (JQ I (by show A.units+1 < cLine;exact hu) h2 h4 r1 r2)
 rw [←r1.length,←r2.length,kh,kh,e1,e2]
def z7S (K:ko):R2:=fun x y H Q=>∃a b st,x=.ref a∧y=.ref b∧StA K H a st∧StA K H b st∧Q (.bl false) H
theorem z5O (hu:X.A.units+3 < cLine):OpR X (compareOp .NotEq) (z7S X.K):=by
 intro pins s σ H x y v u Q I rx ry h
 obtain ⟨a,b,st,rfl,rfl,⟨g,h1,h2⟩,⟨g',h3,h4⟩,q⟩:=h
 cases rx
 cases ry
 obtain ⟨vs,r1,t1,_⟩:=I.tuple h1
 obtain ⟨ws,r2,t2,_⟩:=I.tuple h3
 have e:(!((List.range (min vs.toArray.size ws.toArray.size)).all (fun _=>true)&&vs.toArray.size == ws.toArray.size))=false:=by
  have z1:=r1.length
  have z2:=r2.length
  have z:vs.length=ws.length:=z1.symm.trans z2
  simp only [kz]
  rw [z]
  simp
 refine SeqAt.RcNeAt.tuples (e:=fun _=>true) t1 t2 (by lia) (fun j j1 j2=>?_) X.prog X.w X.xe _ ⟨.bl _,H,I,rfl,by rw [e];exact q⟩
 cases r1 with
 | cons ra rb=>
  cases r2 with
  | cons rc rd=>
   cases rb with
   | cons re rf=>
    cases rd with
    | cons rg rh=>
     cases rf
     cases rh
     match j,j1,j2 with
     | 0,_,_=>
      have e:=z3t (A:=X.A.in1) (s:=s) ra rc rfl rfl
      rw [show eqV (V.int st.1) (V.int st.1)=true by show (st.1 == st.1)=true;simp] at e
      exact e
     | 1,_,_=>
      cases re
      cases rg
      exact z81 I h2 h4 (by show X.A.units+1+1 < cLine;lia)
     | j+2,j1,_=>exact absurd j1 (by simp)
end
noncomputable def qr (r:Row) (d:Int) (gs:List Gd) (more:Int):List Gd:=if more=1 then gs++[(argM r.arg,d)] else if more= -1 then gs.dropLast else gs
section
def spGb (K:ko):Sp:=fun vs H Q _=>∃ra st r d g gs more,vs=[.ref ra,.ref st,.int more]∧H ra=some (.tup (tupV r))∧SqT K H st [.int d,.ref g]∧GsAt K H g gs∧gs.length≤1000∧(more=1→∃m,r.arg=.int m)∧(more= -1→gs≠[])∧
 ∀g' H',Same H H'→GsAt K H' g' (qr r d gs more)→Q (.ref g') H'
theorem sc49:zn ["row","state","more","depth","guards"] ["row","state","more"] (ze (top 49)):=fsM
theorem z4S {α:Type} (xs:List V) (h:xs≠[]):cutV xs none (some (-1))=xs.dropLast∧¬(HT.sIx xs.length 0 none=0∧HT.sIx xs.length xs.length (some (-1))=xs.length):=by
 have hp:0 < xs.length:=List.length_pos_iff.mpr h
 have e:HT.sIx xs.length xs.length (some (-1))=xs.length - 1:=by
  show (if (-1:Int) < 0 then ((-1:Int)+(xs.length:Int)).toNat else min (-1:Int).toNat xs.length)=_
  rw [kr (by decide)]
  lia
 refine ⟨?_,fun z=>by rw [e] at z;lia⟩
 unfold cutV
 rw [e]
 show (xs.drop 0).take (xs.length - 1 - 0)=_
 rw [List.drop_zero,Nat.sub_zero,List.dropLast_eq_take]
theorem z8a (D:zi K mg "guards_behind" (top 49)):FN P w K mg base 1 "guards_behind" ["row","state","more"] (spGb K):=by
 refine FN.o D sc49 fun f cdv A outer s H vs Q E hr h=>?_
 obtain ⟨ra,st,r,d,g,gs,more,rfl,har,hst,⟨as,hga,hgs⟩,hz,h1,h2,q⟩:=h
 refine ⟨_,z8 (ZG (pv 1) (jU rfl (zA (zu (i:=3) sc49.nd rfl (Or.inl rfl)) (zA (zu (i:=4) sc49.nd rfl (Or.inl rfl)) qA))))
  (z8 (qg (zr jA (pv 2) zh (zB _)) (zf (zv (zO z5P (pv 4) (qY (z6 (qY (z6 (qa qH (pv 0) zh (fun _ _=>rfl)) (z6 (pv 3) z7))) z7))))) zH)
  (zf (zv (j9 (zr jA (pv 2) (JC ZF zh) (zB _)) (z0V z6N (pv 4) z2L (z2K (JC ZF zh))) (pv 4))))),?_⟩
 refine ⟨_,rfl,st,_,rfl,hst,rfl,_,_,rfl,_,_,rfl,rfl,?_⟩
 refine ⟨_,rfl,rfl,_,rfl,?_⟩
 have hal:as.length=gs.length:=Paired.length hgs
 unfold qr at q
 refine ite2 (fun c=>?_) (fun c=>?_)
 ·have e:more=1:=by have:=kw c;injection this
  obtain ⟨m,em⟩:=h1 e
  rw [kr e,em] at q
  refine ⟨_,rfl,_,rfl,ra,_,_,_,rfl,rfl,SqT.of har,zy (j:=1) rfl,_,rfl,by show 2≤sizeLine;decide,fun p hp=>⟨by show 1≤sizeLine;decide,fun p2 hp2=>?_⟩⟩
  have s1:=zk hp (.tup [r.arg,.int d])
  have s2:=zk hp2 (.tup [.ref p])
  have hp':(upd (upd H p (.tup [r.arg,.int d])) p2 (.tup [.ref p])) p=some (.tup [.int (argM (.int m)),.int d]):=by
   rw [←em]
   have:=s2 _ _ (zb (H:=H) (a:=p) (o:=.tup [r.arg,.int d]))
   rw [this,em]
   rfl
  have s12:=s1.trans s2
  refine ⟨g,p2,as.map V.ref,[.ref p],rfl,rfl,Zb s12 hga,SqT.of zb,nofun,by rw [kh];show as.length+1≤_;rw [sizeLine_eq];lia,fun z=>?_,fun z p3 hp3=>?_⟩
  ·have za:as=[]:=by simpa using z
   subst za
   cases hgs
   exact q p2 _ s12 ⟨[p],SqT.of zb,.cons hp' .nil⟩
  ·have s3:=zk hp3 (.tup (as.map V.ref++[.ref p]))
   exact q p3 _ (s12.trans s3) ⟨as++[p],SqT.of (by rw [kG];exact zb),((hgs.same s12).same s3).append (.cons (s3 _ _ hp') .nil)⟩
 ·have e:¬more=1:=fun z=>c (by rw [z];rfl)
  rw [kq e] at q
  refine ⟨_,rfl,1,rfl,rfl,_,rfl,?_⟩
  refine ite2 (fun c2=>?_) (fun c2=>?_)
  ·have e2:more= -1:=by have:=kw c2;injection this
   rw [kr e2] at q
   have hne:as.map V.ref≠[]:=fun z=>h2 e2 (by
    have za:as=[]:=by simpa using z
    rw [za] at hal
    exact List.length_eq_zero_iff.mp hal.symm)
   obtain ⟨k1,k2⟩:=z4S (α:=V) _ hne
   refine ⟨_,rfl,1,rfl,-1,rfl,g,_,rfl,hga,k2,fun p hp=>?_⟩
   rw [k1]
   have s1:=zk hp (.tup (as.map V.ref).dropLast)
   refine q p _ s1 ⟨as.dropLast,SqT.of (by rw [List.map_dropLast];exact zb),(hgs.dropLast).same s1⟩
  ·have e2:¬more= -1:=fun z=>c2 (by rw [z];rfl)
   rw [kq e2] at q
   exact ⟨_,rfl,q g H (Same.refl _) ⟨as,hga,hgs⟩⟩
end
noncomputable def isT:HO→Bool
 | .tup _=>true
 | .frz _ _=>true
 | _=>false
def qx (H H':Hp):Prop:=∀b o,H b=some o→isT o=true→H' b=some o
theorem qx.trans {H H1 H2:Hp} (a:qx H H1) (b:qx H1 H2):qx H H2:=fun c o h t=>b c o (a c o h t) t
theorem qx.of {H H':Hp} (s:Same H H'):qx H H':=fun b o h _=>s b o h
theorem qx.upd {H:Hp} {l:Addr} {o u:HO} (h:H l=some u) (hu:isT u=false):qx H (upd H l o):=fun b x e t=>by
 rw [zg (fun z=>by rw [z,h] at e;cases e;rw [hu] at t;cases t)];exact e
theorem Jw {K:ko} {H H':Hp} {a:Addr} {xs:List V} (s:qx H H') (h:SqT K H a xs):SqT K H' a xs:=by
 rcases h with (h | ⟨o,h⟩) | h
 ·exact .inl (.inl (s _ _ h rfl))
 ·exact .inl (.inr ⟨o,s _ _ h rfl⟩)
 ·exact .inr h
theorem GsIn.keep {H H':Hp} {as:List Addr} {gs:List Gd} (h:GsIn H as gs) (s:qx H H'):GsIn H' as gs:=Paired.mapP h fun _ _ e=>s _ _ e rfl
theorem GsAt.keep {K:ko} {H H':Hp} {g:Addr} {gs:List Gd} (h:GsAt K H g gs) (s:qx H H'):GsAt K H' g gs:=let ⟨as,h1,h2⟩:=h;⟨as,Jw s h1,h2.keep s⟩
theorem StA.keep {K:ko} {H H':Hp} {a:Addr} {st:Sta} (h:StA K H a st) (s:qx H H'):StA K H' a st:=let ⟨g,h1,h2⟩:=h;⟨g,Jw s h1,h2.keep s⟩
abbrev NxIn (K:ko) (H:Hp):List Addr→List (V × Sta)→Prop:=Paired fun t n=>∃a,H t=some (.tup [n.1,.ref a])∧StA K H a n.2
theorem NxIn.keep {K:ko} {H H':Hp} {ts:List Addr} {ns:List (V × Sta)} (h:NxIn K H ts ns) (s:qx H H'):NxIn K H' ts ns:=Paired.mapP h fun _ _ z=>z.elim fun a q=>⟨a,s _ _ q.1 rfl,q.2.keep s⟩
theorem NxIn.append {K:ko} {H:Hp} {as bs:List Addr} {gs hs:List (V × Sta)} (h:NxIn K H as gs) (k:NxIn K H bs hs):NxIn K H (as++bs) (gs++hs):=z0T h k
theorem NxIn.get {K:ko} {H:Hp} {as:List Addr} {rs:List (V × Sta)} {i:Nat} {x:V} (h:NxIn K H as rs) (e:(as.map V.ref)[i]?=some x):∃t n a,x=.ref t∧rs[i]?=some n∧H t=some (.tup [n.1,.ref a])∧StA K H a n.2:=by
 obtain ⟨t,n,h1,h2,a,h3⟩:=z2H h e
 exact ⟨t,n,a,h1,h2,h3⟩
noncomputable def j7 (rs:List Row) (place:Nat) (r:Row) (st:Sta):List (V × Sta):=(qG rs place r st.1 st.2.getLast?).map fun m=>(m.1,(m.2.1,qr r st.1 st.2 m.2.2))
theorem z1c {x:Str} (h:tabI qu x=1):x="try":=by
 unfold tabI at h
 cases e:qu.lookup x with
 | none=>rw [e] at h;cases h
 | some v=>
  have hm:=PySem.mem_of_lookup e
  rw [e] at h
  simp only [qu,ky,Prod.mk.injEq,km,or_false] at hm
  rcases hm with ⟨z,_⟩ | ⟨_,z⟩
  ·exact z
  ·rw [z] at h;cases h
theorem z4z {x:Str} (h:tabI qu x= -1):x="endtry":=by
 unfold tabI at h
 cases e:qu.lookup x with
 | none=>rw [e] at h;cases h
 | some v=>
  have hm:=PySem.mem_of_lookup e
  rw [e] at h
  simp only [qu,ky,Prod.mk.injEq,km,or_false] at hm
  rcases hm with ⟨_,z⟩ | ⟨z,_⟩
  ·rw [z] at h;cases h
  ·exact z
theorem z1I {rs:List Row} {place:Nat} {r:Row} {d:Int} {gs:List Gd} (hok:ZQ r):∀m∈qG rs place r d gs.getLast?,(m.2.2=1→∃k,r.arg=.int k)∧(m.2.2= -1→gs≠[]):=by
 intro m hm
 unfold qG at hm
 split at hm
 ·cases hm
 ·split at hm
  ·cases hm
  ·rename_i _ hG
   rcases kO.mp hm with hm | hm
   ·rcases kO.mp hm with hm | hm
    ·unfold mv1 at hm
     split at hm
     ·cases hm
     ·rw [kl.mp hm]
      refine ⟨fun h=>?_,fun h=>?_⟩
      ·have e:=z1c h
       obtain ⟨s,hs,hfit,_⟩:=hok.parts
       rw [e,show zZ "try"=some ("mark":Str) by trivial] at hs
       cases hs
       obtain ⟨k,hk,_⟩:=Zk hfit
       exact ⟨k,hk⟩
      ·have e:=z4z h
       intro z
       subst z
       exact hG (by unfold Qj;rw [e];decide)
    ·unfold mv2 at hm
     split at hm
     ·rw [kl.mp hm]
      exact ⟨fun h=>absurd (show (0:Int)=1 from h) (by decide),fun h=>absurd (show (0:Int)= -1 from h) (by decide)⟩
     ·cases hm
   ·unfold mv3 at hm
    split at hm
    ·cases e:gs.getLast? with
     | none=>rw [e] at hm;cases hm
     | some g=>
      rw [e] at hm
      rw [kl.mp hm]
      refine ⟨fun h=>absurd (show (-1:Int)=1 from h) (by decide),fun _ z=>?_⟩
      subst z
      cases e
    ·cases hm
theorem z19 {X:Cx} {K:ko} (hK:X.K=K):IxR X (rIxL K):=by subst hK;exact zK
theorem Qg (rs:List Row) (place:Nat) (r:Row) (d:Int) (og:Option Gd):(qG rs place r d og).length≤3:=by
 unfold qG mv1 mv2 mv3
 repeat' split
 all_goals simp
theorem nd52:N52.Nodup:=by trivial
section
theorem GsAt.guardV {H:Hp} {g:Addr} {gs:List Gd} (h:GsAt K H g gs):∃as:List Addr,SqT K H g (as.map V.ref)∧((as=[]∧jH H .non gs.getLast?)∨∃bs a,as=bs++[a]∧jH H (.ref a) gs.getLast?):=by
 obtain ⟨as,h1,h2⟩:=h
 refine ⟨as,h1,?_⟩
 rcases h2.last with ⟨e1,e2⟩ | ⟨bs,a,g',e1,e2,e3⟩
 ·exact .inl ⟨e1,by rw [e2];rfl⟩
 ·exact .inr ⟨bs,a,e1,by rw [e2];exact ⟨a,rfl,e3⟩⟩
def z5B (K:ko):Sp:=fun vs H Q _=>∃(g:Addr) (gs:List Gd),vs=[.ref g]∧GsAt K H g gs∧∀gv,jH H gv gs.getLast?→Q gv H
theorem up2 (F:FN P w K mg base 1 "uppermost" ["guards"] (spUp K)):FN P w K mg base 1 "uppermost" ["guards"] (z5B K):=F.imp fun vs H Q E ⟨g,gs,e,h,q⟩=>by
 obtain ⟨as,h1,h2⟩:=h.guardV
 refine ⟨g,as,e,h1,?_⟩
 rcases h2 with ⟨a,b⟩ | ⟨bs,a,e1,b⟩
 ·exact .inl ⟨a,q _ b⟩
 ·exact .inr ⟨bs,a,e1,q _ b⟩
def Jq (K:ko):Sp:=fun vs H Q _=>∃l d place sa st rs r,vs=[.ref l,.ref d,.int (place:Nat),.ref sa]∧jY K H l d rs∧rs[place]?=some r∧StA K H sa st∧st.2.length≤1000∧
 ∀f ts H',Same H H'→H f=none→H' f=some (.lst (ts.map V.ref))→NxIn K H' ts (j7 rs place r st)→Q (.ref f) H'
theorem z66 (D:zi K mg "next_states" (top 50)) (FU:FN P w K mg base 1 "uppermost" ["guards"] (z5B K)) (FM:FN P w K mg base 3 "moves" ["code","labels","place","depth","guard"] (z0i K)) (FB:FN P w K mg base 1 "guards_behind" ["row","state","more"] (spGb K)):
  FN P w K mg base 4 "next_states" ["code","labels","place","state"] (Jq K):=by
 refine FN.o D sc50 fun f cdv A outer s H vs Q E hr h=>?_
 obtain ⟨l,d,place,sa,st,rs,r,rfl,hC,hrp,⟨g,hsa,hgs⟩,hz,q⟩:=h
 have hr1:=hr.mono (show 1≤3 by decide)
 refine ⟨_,z8 (ZG (pv 3) (jU rfl (zA (zu (i:=4) sc50.nd rfl (Or.inl rfl)) (zA (zu (i:=5) sc50.nd rfl (Or.inl rfl)) qA))))
  (zf (zv (z0Y (N:=N52) (nt:=3) (ix:=[0,2,3]) (cl:=cl52 s.heap.objs.size) rfl cs52 (jd (zp FM hr rfl (z6 (pv 0) (z6 (pv 1) (z6 (pv 2) (z6 (pv 4) (z6 (zp FU hr1 rfl (z6 (pv 5) z7)) z7)))))))
   (fun _ _ _ _=>Zz (K:=K) (n:=3) rfl rfl (zA (zu (i:=0) nd52 rfl (Or.inl rfl)) (zA (zu (i:=1) nd52 rfl (Or.inl rfl)) (zA (zu (i:=2) nd52 rfl (Or.inl rfl)) qA))))
   (fun _ _ _ _=>Q7)
   (fun _ _ _ _=>qY (z6 (pv 0) (z6 (qY (z6 (pv 1) (z6 (zp FB hr1 rfl (z6 (qa (z19 (K:=K) rfl) (pv 3) (pv 4) (fun _ _=>rfl)) (z6 (pv 5) (z6 (pv 2) z7)))) z7))) z7)))))),?_⟩
 refine ⟨_,rfl,sa,_,rfl,hsa,rfl,_,_,rfl,_,_,rfl,rfl,?_⟩
 refine ⟨_,rfl,_,rfl,_,rfl,_,rfl,_,rfl,g,st.2,rfl,hgs,fun gv hgv=>?_⟩
 refine ⟨l,d,place,st.1,gv,_,rs,r,rfl,hC,hrp,hgv,fun ml ts H1 s1 hn1 hm1 hM1=>?_⟩
 obtain ⟨⟨as,hS,hR⟩,hc,_⟩:=id hC
 have hro:=hc.ok r (kD hrp)
 have hmm:=z1I (rs:=rs) (place:=place) (d:=st.1) (gs:=st.2) hro
 have hlen:=Qg rs place r st.1 st.2.getLast?
 unfold j7 at q
 generalize hms:qG rs place r st.1 st.2.getLast?=ms at hM1 hmm hlen q
 refine ⟨ml,rfl,⟨_,SqL.of hm1⟩,fun nl hnl=>jR (K:=K) (a:=ml) (xs:=ts.map V.ref) (fun i ys σ H2=>(∃a b c,σ=[a,b,c,some (.ref l),some (.int (place:Nat)),some (.ref sa)])∧
   ∃us:List Addr,ys=us.map V.ref∧NxIn K H2 us ((ms.take i).map fun m=>(m.1,(m.2.1,qr r st.1 st.2 m.2.2)))∧Same H1 H2∧H2 nl=some (.lst ys))
  ⟨⟨none,none,none,rfl⟩,[],rfl,.nil,zk hnl _,zb⟩ (fun i ys σ H2 _ ⟨_,_,_,_,s2,_⟩=>s2.seq (SqL.of hm1)) ?_ ?_⟩
 ·rintro i x ys σ H2 hi ⟨⟨a,b,c,rfl⟩,us,rfl,hN,s2,hp2⟩
  obtain ⟨t,m,rfl,hm,ht⟩:=(hM1.same fun a xs e=>s2 _ _ e).get hi
  have hil:i < ts.length:=by have:=(ke.mp hi).1;simpa using this
  have hml:ts.length=ms.length:=Paired.length hM1
  have hul:us.length=(ms.take i).length:=by have:=Paired.length hN;simpa using this
  have sH:=s1.trans s2
  obtain ⟨ra,hra,har⟩:=hR.get' hrp
  obtain ⟨mm1,mm2⟩:=hmm m (kD hm)
  refine ⟨t,_,rfl,SqT.of ht,rfl,_,_,rfl,_,_,rfl,_,_,rfl,rfl,?_⟩
  refine Q2 ⟨_,rfl,_,rfl,_,rfl,_,rfl,l,_,_,_,rfl,rfl,sH.seq hS,zy hra,_,rfl,_,rfl,ra,sa,r,st.1,g,st.2,m.2.2,rfl,sH _ _ har,Zb sH hsa,hgs.same sH,hz,mm1,mm2,fun g' H3 s3 hg'=>?_⟩
  refine ⟨by show 2≤sizeLine;decide,fun p1 hp1=>⟨by show 2≤sizeLine;decide,fun p2 hp2'=>?_⟩⟩
  have t1:=zk hp1 (.tup [.int m.2.1,.ref g'])
  have t2:=zk hp2' (.tup [m.1,.ref p1])
  have t12:=t1.trans t2
  have sE:=s3.trans t12
  have hnl5:=sE _ _ hp2
  refine ⟨hnl5,?_,_,by rw [kh];lia,rfl,by rw [kh];lia,⟨_,_,_,rfl⟩,us++[p2],by rw [kG];rfl,?_,?_,zb⟩
  ·rw [kh,hul,List.length_take]
   exact q0 (by lia)
  ·rw [qj hm,kG]
   have kT:=qx.upd (o:=.lst (us.map V.ref++[.ref p2])) hnl5 rfl
   refine NxIn.append ((hN.keep (qx.of sE)).keep kT) (.cons ⟨p1,kT _ _ zb rfl,StA.keep ⟨g',SqT.of (t2 _ _ zb),hg'.same t12⟩ kT⟩ .nil)
  ·exact fun b o e=>by rw [zg (zc e hnl)];exact sE _ _ (s2 _ _ e)
 ·rintro ys σ H2 ⟨_,us,rfl,hN,s2,hp2⟩
  have hml:ts.length=ms.length:=Paired.length hM1
  rw [kh,hml,List.take_length] at hN
  exact q nl us H2 (s1.trans s2) (s1.free hnl) hp2 hN
def spSw (K:ko):Sp:=fun vs H Q _=>∃l d place sa st rs r,vs=[.ref l,.ref d,.int (place:Nat),.ref sa]∧jY K H l d rs∧rs[place]?=some r∧StA K H sa st∧
 ∀f H',Same H H'→H f=none→H' f=some (.lst ((jt rs place r st.1 st.2.getLast?).map V.str))→Q (.ref f) H'
theorem sc51:zn ["code","labels","place","state"] ["code","labels","place","state"] (ze (top 51)):=fsM
theorem z86 (D:zi K mg "state_words" (top 51)) (FU:FN P w K mg base 1 "uppermost" ["guards"] (z5B K)) (FW:FN P w K mg base 4 "words_lacking" ["code","labels","place","depth","guard"] (z2r K)):FN P w K mg base 5 "state_words" ["code","labels","place","state"] (spSw K):=by
 refine FN.o D sc51 fun f cdv A outer s H vs Q E hr h=>?_
 obtain ⟨l,d,place,sa,st,rs,r,rfl,hC,hrp,⟨g,hsa,hgs⟩,q⟩:=h
 refine ⟨_,zf (zv (zp FW hr rfl (z6 (pv 0) (z6 (pv 1) (z6 (pv 2) (z6 (qa qH (pv 3) zh (fun _ _=>rfl)) (z6 (zp FU (hr.mono (by decide)) rfl (z6 (qa qH (pv 3) zh (fun _ _=>rfl)) z7)) z7))))))),?_⟩
 refine ⟨_,rfl,_,rfl,_,rfl,_,rfl,sa,_,_,_,rfl,rfl,hsa,zy (j:=0) rfl,_,rfl,sa,_,_,_,rfl,rfl,hsa,zy (j:=1) rfl,g,st.2,rfl,hgs,fun gv hgv=>?_⟩
 exact ⟨l,d,place,st.1,gv,_,rs,r,rfl,hC,hrp,hgv,q⟩
end
abbrev Fnd:=List (Option Sta)
noncomputable def Zd:List (V × Sta)→Fnd→List Nat→Option (Fnd × List Nat)
 | [],f,w=>some (f,w)
 | (x,s) :: r,f,w=>match x with
  | .int j=>if 0≤j then (match f[j.toNat]? with
   | some none=>Zd r (f.set j.toNat (some s)) (w++[j.toNat])
   | some (some s')=>if s'=s then Zd r f w else none
   | none=>none) else none
  | _=>none
noncomputable def bfs (rs:List Row):Nat→Fnd→List Nat→Option Fnd
 | _,f,[]=>some f
 | 0,_,_ :: _=>none
 | n+1,f,p :: w=>match rs[p]?,f[p]? with
  | some r,some (some s)=>if (jt rs p r s.1 s.2.getLast?).isEmpty=true∧s.2.length≤1000 then (match Zd (j7 rs p r s) f w with
   | some (f',w')=>bfs rs n f' w'
   | none=>none) else none
  | _,_=>none
noncomputable def qR (rs:List Row):Option Fnd:=bfs rs 300 ((List.replicate rs.length none).set 0 (some (0,[]))) [0]
abbrev qv (K:ko) (H:Hp):List V→Fnd→Prop:=Paired fun x o=>match o with
 | none=>x=.non
 | some st=>∃a,x=.ref a∧StA K H a st
theorem qv.keep {K:ko} {H H':Hp} {xs:List V} {os:Fnd} (h:qv K H xs os) (s:qx H H'):qv K H' xs os:=Paired.mapP h fun _ o z=>by
 cases o with
 | none=>exact z
 | some st=>
  obtain ⟨a,h1,h2⟩:=z
  exact ⟨a,h1,h2.keep s⟩
theorem qv.get {K:ko} {H:Hp} {xs:List V} {os:Fnd} {j:Nat} {o:Option Sta} (h:qv K H xs os):os[j]?=some o→∃x,xs[j]?=some x∧(match o with | none=>x=.non | some st=>∃a,x=.ref a∧StA K H a st):=z6T h
theorem qv.set {K:ko} {H:Hp} {a:Addr} {st:Sta} (hs:StA K H a st):∀{xs:List V} {os:Fnd} (j:Nat),qv K H xs os→qv K H (xs.set j (.ref a)) (os.set j (some st))
 | _,_,_,.nil=>.nil
 | _,_,0,.cons _ t=>.cons ⟨a,rfl,hs⟩ t
 | _,_,j+1,.cons h t=>.cons h (qv.set hs j t)
theorem QH (K:ko) (H:Hp):∀n:Nat,qv K H (List.replicate n V.non) (List.replicate n none)
 | 0=>.nil
 | n+1=>.cons rfl (QH K H n)
def z0G (H:Hp) (kvs:List (Key × V)) (f:Fnd) (B:Nat):Prop:=∀(p:Nat) st,f[p]?=some (some st)→∃t ns,valV kvs (Sum.inl (p:Int):Key)=some (.ref t)∧H t=some (.tup ns)∧ns≠[]∧ns.length≤B
theorem z0G.keep {H H':Hp} {kvs:List (Key × V)} {f:Fnd} {B:Nat} (h:z0G H kvs f B) (s:qx H H'):z0G H' kvs f B:=fun p st e=>let ⟨t,ns,h1,h2,h3⟩:=h p st e;⟨t,ns,h1,s _ _ h2 rfl,h3⟩
theorem z0G.mono {H:Hp} {kvs:List (Key × V)} {f:Fnd} {B B':Nat} (h:z0G H kvs f B) (hb:B≤B'):z0G H kvs f B':=fun p st e=>let ⟨t,ns,h1,h2,h3,h4⟩:=h p st e;⟨t,ns,h1,h2,h3,kn h4 hb⟩
structure Srch (K:ko) (H0 H:Hp) (d fl wd wl:Addr) (rs:List Row) (f:Fnd) (w:List Nat) (B C:Nat):Prop where
 same:Same H0 H
 labs:∃kvs,H d=some (.dK kvs)∧Qq kvs rs
 nf:H0 fl=none
 nw:H0 wd=none
 nl:H0 wl=none
 fnd:∃fvs,H fl=some (.lst fvs)∧qv K H fvs f
 wks:∃kvs,H wd=some (.dK kvs)∧z0G H kvs f B∧kvs.length≤C
 wts:H wl=some (.lst (w.map fun p=>V.int (p:Nat)))
 wlen:w.length≤C
 flen:f.length=rs.length
 nd:d≠wd
 nfw:fl≠wl
theorem Srch.same' {K:ko} {H0 H H':Hp} {d fl wd wl:Addr} {rs:List Row} {f:Fnd} {w:List Nat} {B C:Nat} (h:Srch K H0 H d fl wd wl rs f w B C) (s:Same H H'):Srch K H0 H' d fl wd wl rs f w B C:=by
 obtain ⟨a1,⟨kv,b1,b2⟩,a3,a4,a5,⟨fvs,a6,a7⟩,⟨kvs,a8,a9,a10⟩,a11,a12,a13,a14,a15⟩:=h
 have kt:=qx.of s
 exact ⟨a1.trans s,⟨kv,s _ _ b1,b2⟩,a3,a4,a5,⟨fvs,s _ _ a6,a7.keep kt⟩,⟨kvs,s _ _ a8,a9.keep kt,a10⟩,s _ _ a11,a12,a13,a14,a15⟩
theorem Srch.more {K:ko} {H0 H:Hp} {d fl wd wl:Addr} {rs:List Row} {f:Fnd} {w:List Nat} {B B' C C':Nat} (h:Srch K H0 H d fl wd wl rs f w B C) (hb:B≤B') (hc:C≤C'):Srch K H0 H d fl wd wl rs f w B' C':=by
 obtain ⟨a1,a2,a3,a4,a5,a6,⟨kvs,a8,a9,a10⟩,a11,a12,a13,a14,a15⟩:=h
 exact ⟨a1,a2,a3,a4,a5,a6,⟨kvs,a8,a9.mono hb,by lia⟩,a11,by lia,a13,a14,a15⟩
theorem Srch.code {K:ko} {H0 H:Hp} {l d fl wd wl:Addr} {as:List Addr} {rs:List Row} {f:Fnd} {w:List Nat} {B C:Nat} (h:Srch K H0 H d fl wd wl rs f w B C) (hS:SqL K H0 l (as.map V.ref)) (hR:zP H0 as rs) (hc:Code rs):jY K H l d rs:=
 ⟨⟨as,h.same.seq hS,hR.same h.same⟩,hc,h.labs⟩
theorem Srch.pop {K:ko} {H0 H:Hp} {d fl wd wl:Addr} {rs:List Row} {f:Fnd} {p:Nat} {w:List Nat} {B C:Nat} (h:Srch K H0 H d fl wd wl rs f (p :: w) B C):Srch K H0 (upd H wl (.lst (w.map fun p=>V.int (p:Nat)))) d fl wd wl rs f w B C:=by
 obtain ⟨a1,⟨kv,b1,b2⟩,a3,a4,a5,⟨fvs,a6,a7⟩,⟨kvs,a8,a9,a10⟩,a11,a12,a13,a14,a15⟩:=h
 have kt:=qx.upd (o:=.lst (w.map fun p=>V.int (p:Nat))) a11 rfl
 exact ⟨fun b o e=>by rw [zg (zc e a5)];exact a1 _ _ e,⟨kv,by rw [zg (jC b1 a11 nofun)];exact b1,b2⟩,a3,a4,a5,⟨fvs,by rw [zg a15];exact a6,a7.keep kt⟩,
  ⟨kvs,by rw [zg (jC a8 a11 nofun)];exact a8,a9.keep kt,a10⟩,zb,by simp at a12;lia,a13,a14,a15⟩
theorem Srch.put {K:ko} {H0 H:Hp} {d fl wd wl:Addr} {rs:List Row} {f:Fnd} {w:List Nat} {B C:Nat} (h:Srch K H0 H d fl wd wl rs f w B C) {j:Nat} {a t:Addr} {st:Sta} {ns fvs:List V} {kvs:List (Key × V)} (hf:H fl=some (.lst fvs)) (hw:H wd=some (.dK kvs))
  (hs:StA K H a st) (ht:H t=some (.tup ns)) (hn:ns≠[]) (hl:ns.length≤B) (hj:f[j]?=some none):
  Srch K H0 (upd (upd (upd H fl (.lst (fvs.set j (.ref a)))) wd (.dK (putK kvs (Sum.inl (j:Int)) (.ref t)))) wl (.lst ((w.map fun p=>V.int (p:Nat))++[V.int (j:Nat)]))) d fl wd wl rs (f.set j (some st)) (w++[j]) B (C+1):=by
 obtain ⟨a1,⟨kv,b1,b2⟩,a3,a4,a5,⟨fvs',a6,a7⟩,⟨kvs',a8,a9,a10⟩,a11,a12,a13,a14,a15⟩:=h
 rw [hf] at a6
 cases a6
 rw [hw] at a8
 cases a8
 have nwf:wd≠fl:=jC hw hf nofun
 have nwl:wd≠wl:=jC hw a11 nofun
 have k1:=qx.upd (o:=.lst (fvs.set j (.ref a))) hf rfl
 have e2:(upd H fl (.lst (fvs.set j (.ref a)))) wd=some (.dK kvs):=by rw [zg nwf];exact hw
 have k2:=k1.trans (qx.upd (o:=.dK (putK kvs (Sum.inl (j:Int)) (.ref t))) e2 rfl)
 have e3:(upd (upd H fl (.lst (fvs.set j (.ref a)))) wd (.dK (putK kvs (Sum.inl (j:Int)) (.ref t)))) wl=some (.lst (w.map fun p=>V.int (p:Nat))):=by rw [zg nwl.symm,zg a15.symm];exact a11
 have k3:=k2.trans (qx.upd (o:=.lst ((w.map fun p=>V.int (p:Nat))++[V.int (j:Nat)])) e3 rfl)
 refine ⟨fun b o e=>by rw [zg (zc e a5),zg (zc e a4),zg (zc e a3)];exact a1 _ _ e,⟨kv,by rw [zg (jC b1 a11 nofun),zg a14,zg (jC b1 hf nofun)];exact b1,b2⟩,a3,a4,a5,
  ⟨_,by rw [zg a15,zg nwf.symm];exact zb,(a7.set hs j).keep k3⟩,⟨_,by rw [zg nwl];exact zb,fun p st' e=>?_,?_⟩,?_,by simp;lia,by simp [a13],a14,a15⟩
 ·rw [Z8]
  by_cases z:p=j
  ·subst z
   rw [kr rfl]
   exact ⟨t,ns,rfl,k3 _ _ ht rfl,hn,hl⟩
  ·rw [kq (fun y=>z (by injection y with y;lia))]
   rw [List.getElem?_set,kq (fun y=>z y.symm)] at e
   obtain ⟨t',ns',h1,h2,h3⟩:=a9 p st' e
   exact ⟨t',ns',h1,k3 _ _ h2 rfl,h3⟩
 ·have:=qp kvs (Sum.inl (j:Int):Key) (V.ref t)
  lia
 ·rw [zb,kG]
  rfl
section
def Qw (K:ko):Sp:=fun vs H Q _=>∃l as rs fin,vs=[.ref l]∧SqL K H l (as.map V.ref)∧zP H as rs∧Code rs∧qR rs=some fin∧
 ∀t fl fvs H',Same H H'→H t=none→H fl=none→H' t=some (.tup [.ref fl,.non])→H' fl=some (.lst fvs)→qv K H' fvs fin→Q (.ref t) H'
theorem sc52:zn ["code","labels","found","walks","waiting","place","words","goal","state","walk"] ["code"] (ze (top 52)):=fsM
theorem pop0 {xs:List V} {y:V} {ys:List V} (h:xs=y :: ys):seqIndex? 0 xs.length=some 0∧xs[0]?=some y∧xs.eraseIdx 0=ys:=by
 subst h
 refine ⟨?_,rfl,rfl⟩
 unfold seqIndex?
 simp
noncomputable def st54:Stmt:=match (zW (top 52)).getD 5 (.Pass ⟨0,0,0,0⟩) with
 | .While _ b _ _=>b.getD 3 (.Pass ⟨0,0,0,0⟩)
 | s=>s
noncomputable abbrev N54:List Str:=["code","labels","found","walks","waiting","place","words","goal","state","walk"]
def z6Q (K:ko) (H:Hp) (l:Addr) (rs:List Row):TS:=fun D σ H3=>∃(d fl wd wl:Addr) (p:Nat) (r:Row) (st:Sta) (n:Nat) (v6 v7 v8 v9:Option V) (fo:Fnd) (wa:List Nat) (foE:Fnd) (waE:List Nat),
 σ=[some (.ref l),some (.ref d),some (.ref fl),some (.ref wd),some (.ref wl),some (.int (p:Nat)),v6,v7,v8,v9]∧n≤299∧rs[p]?=some r∧fo[p]?=some (some st)∧st.2.length≤1000∧Zd (j7 rs p r st) fo wa=some (foE,waE)∧
 Srch K H H3 d fl wd wl rs fo wa (300 - n) (3 * (300 - n))∧∀σ' H',(∃v5 v6 v7 v8 v9,σ'=[some (.ref l),some (.ref d),some (.ref fl),some (.ref wd),some (.ref wl),v5,v6,v7,v8,v9])→Srch K H H' d fl wd wl rs foE waE (301 - n) (3 * (301 - n))→D.nx σ' H'
theorem z3x {α:Type} {l:List α} {i:Nat} {x:α} (h:l[i]?=some x):l.drop i=x :: l.drop (i+1):=by
 obtain ⟨hi,e⟩:=ke.mp h
 rw [←e]
 exact List.drop_eq_getElem_cons hi
theorem z83 {f:Addr} {cdv:Value} {A:Around} {outer:List Env} {s:Shared} {H:Hp} {E:XK} {l:Addr} {as:List Addr} {rs:List Row} (hr:Room 7 (A.deeper (envOfC "searched" (ze (top 52)) s.heap.objs.size f cdv)))
  (hS:SqL K H l (as.map V.ref)) (hR:zP H as rs) (hc:Code rs) (FN':FN P w K mg base 4 "next_states" ["code","labels","place","state"] (Jq K)):
  PS (cxOf CX0 P w K mg base N54 "searched" (ze (top 52)) f cdv A outer s H E).nox st54 (z6Q K H l rs):=by
 have hu:=z4v hr
 have hu3:(A.deeper (envOfC "searched" (ze (top 52)) s.heap.objs.size f cdv)).units+3 < cLine:=by have:=hr.un;lia
 have hr4:=hr.mono (show 4≤7 by decide)
 refine PS.imp (jf PassesOwn.never rfl (jd (zp FN' hr4 rfl (z6 (pv 0) (z6 (pv 1) (z6 (pv 5) (z6 (qa zK (pv 2) (pv 5) (fun _ _=>rfl)) z7))))))
    (jU rfl (zA (zu (i:=7) sc52.nd rfl (Or.inl rfl)) (zA (zu (i:=8) sc52.nd rfl (Or.inl rfl)) qA)))
    (z8 (zC (i:=9) sc52.nd rfl (Or.inl rfl) (zO z2W (QW hu (pv 3) (pv 5) (fun _ _=>rfl)) (qY (z6 (pv 7) z7))))
    (zf (qg (zr QB (qa zK (pv 2) (pv 7) (fun _ _=>rfl)) qU (zB _))
     (z8 (ZG (pv 8) (z0U (pv 2) (pv 7) ZU)) (z8 (z2G hu (pv 3) (pv 7) (pv 9) rfl) (zf (zj (jV (pv 4) (z6 (pv 7) z7))))))
     (zf (qg (zr (z5O hu3) (qa zK (pv 2) (pv 7) (fun _ _=>rfl)) (pv 8) (zB _)) jx zH)))))) ?_
 rintro D σ H3 ⟨d,fl,wd,wl,p,r,st,n,v6,v7,v8,v9,fo,wa,foE,waE,rfl,hn,hrp,hfp,hz,hrel,S,k⟩
 obtain ⟨fvs,hfl2,hF⟩:=S.fnd
 obtain ⟨x,hx,hx2⟩:=hF.get hfp
 obtain ⟨sa,rfl,hsa⟩:=hx2
 refine ⟨_,rfl,_,rfl,_,rfl,_,rfl,_,rfl,fl,_,_,_,rfl,rfl,SqL.of hfl2,zy hx,l,d,p,sa,st,rs,r,rfl,S.code hS hR hc,hrp,hsa,hz,fun nl ts H4 s4 hn4 hnl4 hN4=>?_⟩
 have hnlen:(j7 rs p r st).length≤3:=by unfold j7;rw [kh];exact Qg ..
 generalize j7 rs p r st=ns at hrel hN4 hnlen
 have hts:ts.length=ns.length:=Paired.length hN4
 have S4:=S.same' s4
 obtain ⟨kvs,hwd,hW,hkl⟩:=S4.wks
 obtain ⟨tp,np,ht1,ht2,ht3,ht4⟩:=hW p st hfp
 refine ⟨nl,rfl,⟨_,SqL.of hnl4⟩,Ja (K:=K) (a:=nl) (xs:=ts.map V.ref) (fun i σ H'=>∃v7 v8 v9 fo' wa',σ=[some (.ref l),some (.ref d),some (.ref fl),some (.ref wd),some (.ref wl),some (.int (p:Nat)),v6,v7,v8,v9]∧i≤3∧
   Zd (ns.drop i) fo' wa'=some (foE,waE)∧fo'[p]?=some (some st)∧Srch K H H' d fl wd wl rs fo' wa' (301 - n) (3 * (300 - n)+i)∧(∃kvs,H' wd=some (.dK kvs)∧valV kvs (Sum.inl (p:Int):Key)=some (.ref tp))∧H' tp=some (.tup np)∧
   H' nl=some (.lst (ts.map V.ref))∧NxIn K H' ts ns)
  ⟨v7,v8,v9,fo,wa,rfl,by decide,hrel,hfp,S4.more (by lia) (by lia),⟨kvs,hwd,ht1⟩,ht2,hnl4,hN4⟩ (fun i σ H' _ ⟨_,_,_,_,_,_,_,_,_,_,_,_,h,_⟩=>SqL.of h) ?_ ?_⟩
 ·rintro i x σ H' hi ⟨v7,v8,v9,fo',wa',rfl,hi3,hrel',hfp',S',⟨kvs',hwd',hv'⟩,htp',hnl',hN'⟩
  obtain ⟨t,nx,a,rfl,hnx,ht,hst⟩:=hN'.get hi
  have hil:i < ts.length:=by have:=(ke.mp hi).1;simpa using this
  rw [z3x hnx] at hrel'
  obtain ⟨goal,st'⟩:=nx
  refine ⟨t,_,rfl,SqT.of ht,rfl,_,_,rfl,_,_,rfl,rfl,?_⟩
  have hgd:DGet H' wd (.int (p:Nat)) (some (.ref tp)):=by rw [←hv'];exact DGet.k (k:=Sum.inl (p:Int)) hwd'
  refine ⟨_,rfl,_,rfl,wd,_,rfl,hgd,_,rfl,by show 1≤sizeLine;decide,fun p2 hp2=>?_⟩
  have t2:=zk hp2 (.tup [goal])
  refine ⟨tp,p2,np,[goal],rfl,rfl,SqT.of (t2 _ _ htp'),SqT.of zb,ht3,by rw [sizeLine_eq];show np.length+1≤_;lia,nofun,fun _ p3 hp3=>?_⟩
  have t3:=zk hp3 (.tup (np++[goal]))
  have t23:=t2.trans t3
  have S2:=S'.same' t23
  have hwd2:=t23 _ _ hwd'
  have hnl2:=t23 _ _ hnl'
  have hN2:=hN'.keep (qx.of t23)
  have hst2:=hst.same t23
  have htp2:=t23 _ _ htp'
  have hp33:(upd (upd H' p2 (.tup [goal])) p3 (.tup (np++[goal]))) p3=some (.tup (np++[goal])):=zb
  generalize upd (upd H' p2 (.tup [goal])) p3 (.tup (np++[goal]))=H5 at *
  obtain ⟨fv,hfl5,hF5⟩:=S2.fnd
  unfold Zd at hrel'
  cases goal with
  | int j=>
   dsimp only at hrel'
   by_cases hj0:0≤j
   case neg=>rw [kq hj0] at hrel';cases hrel'
   rw [kr hj0] at hrel'
   obtain ⟨jn,rfl⟩:=kU hj0
   rw [kW] at hrel'
   cases hfj:fo'[jn]? with
   | none=>rw [hfj] at hrel';cases hrel'
   | some o=>
    obtain ⟨y,hy,hy2⟩:=hF5.get hfj
    rw [hfj] at hrel'
    refine ⟨_,rfl,_,rfl,fl,_,_,_,rfl,rfl,SqL.of hfl5,zy hy,rfl,_,rfl,?_⟩
    cases o with
    | none=>
     dsimp only at hrel' hy2
     subst hy2
     have npj:p≠jn:=fun z=>by rw [z,hfj] at hfp';cases hfp'
     have jlt:jn < fv.length:=(ke.mp hy).1
     have Sp:=S2.put (t:=p3) hfl5 hwd2 hst2 hp33 (by simp) (by rw [ki];show np.length+1≤_;lia) hfj
     have nwf:wd≠fl:=jC hwd2 hfl5 nofun
     have nlf:nl≠fl:=fun z=>by rw [z] at hn4;rw [S.fnd.choose_spec.1] at hn4;cases hn4
     have nlw:nl≠wl:=fun z=>by rw [z] at hn4;rw [S.wts] at hn4;cases hn4
     refine iteT ⟨_,rfl,_,rfl,_,rfl,fl,fv,_,jn,rfl,rfl,hfl5,?_,?_⟩
     ·unfold ixN
      rw [kr hj0,kr (by lia),kW]
     refine ⟨_,rfl,_,rfl,_,rfl,wd,_,rfl,DPut.k (k:=Sum.inl (jn:Int)) (by rw [zg nwf];exact hwd2) ?_,?_⟩
     ·obtain ⟨kk,e1,_,e3⟩:=S2.wks
      rw [hwd2] at e1
      cases e1
      rw [sizeLine_eq];lia
     have hwl5:(upd (upd H5 fl (.lst (fv.set jn (.ref a)))) wd (.dK (putK kvs' (Sum.inl (jn:Int)) (.ref p3)))) wl=some (.lst (wa'.map fun p=>V.int (p:Nat))):=by
      rw [zg (jC S2.wts hwd2 nofun),zg S2.nfw.symm];exact S2.wts
     refine ⟨_,rfl,.inl ⟨rfl,_,SqL.of hwl5⟩,_,rfl,wl,_,_,rfl,rfl,hwl5,?_,?_⟩
     ·rw [kh]
      have:=S2.wlen
      rw [sizeLine_eq];lia
     have kt:qx H5 (upd (upd (upd H5 fl (.lst (fv.set jn (.ref a)))) wd (.dK (putK kvs' (Sum.inl (jn:Int)) (.ref p3)))) wl (.lst ((wa'.map fun p=>V.int (p:Nat))++[V.int (jn:Nat)]))):=
      ((qx.upd hfl5 rfl).trans (qx.upd (u:=.dK kvs') (by rw [zg nwf];exact hwd2) rfl)).trans (qx.upd hwl5 rfl)
     refine ⟨_,_,_,_,_,rfl,by lia,hrel',by rw [List.getElem?_set,kq npj.symm];exact hfp',Sp.more (kc _) (by lia),⟨_,by rw [zg (jC hwd2 S2.wts nofun)];exact zb,?_⟩,kt _ _ htp2 rfl,?_,hN2.keep kt⟩
     ·rw [Z8,kq (fun z=>npj (by injection z with z;lia))];exact hv'
     ·rw [zg nlw,zg (jC hnl2 hwd2 nofun),zg nlf];exact hnl2
    | some s'=>
     dsimp only at hrel' hy2
     obtain ⟨a',rfl,hst'⟩:=hy2
     by_cases hs:s'=st'
     case neg=>rw [kq hs] at hrel';cases hrel'
     rw [kr hs] at hrel'
     subst hs
     refine iteF ⟨_,rfl,_,rfl,fl,_,_,_,rfl,rfl,SqL.of hfl5,zy hy,_,rfl,a',a,s',rfl,rfl,hst',hst2,false,rfl,iteF ?_⟩
     exact ⟨_,_,_,_,_,rfl,by lia,hrel',hfp',S2.more (kc _) (by lia),⟨kvs',hwd2,hv'⟩,htp2,hnl2,hN2⟩
  | _=>cases hrel'
 ·rintro σ H' ⟨v7,v8,v9,fo',wa',rfl,hi3,hrel',hfp',S',_⟩
  have hdr:ns.drop (ts.map V.ref).length=[]:=by rw [kh,hts];simp
  rw [hdr] at hrel'
  unfold Zd at hrel'
  cases hrel'
  exact k _ H' ⟨_,_,_,_,_,rfl⟩ (S'.more (kc _) (by rw [kh] at *;lia))
end
section
noncomputable def z7M:Stmt:=(zW (top 52)).getD 5 (.Pass ⟨0,0,0,0⟩)
def z7O (K:ko) (H:Hp) (l:Addr) (rs:List Row) (fin:Fnd):TS:=fun D σ H3=>∃(d fl wd wl:Addr) (f0:Fnd),σ=[some (.ref l),some (.ref d),some (.ref fl),some (.ref wd),some (.ref wl),none,none,none,none,none]∧bfs rs 300 f0 [0]=some fin∧
 Srch K H H3 d fl wd wl rs f0 [0] (301 - 300) (3 * (301 - 300))∧∀v1 v3 v4 v5 v6 v7 v8 v9 fvs H',Same H H'→H fl=none→H' fl=some (.lst fvs)→qv K H' fvs fin→D.nx [some (.ref l),v1,some (.ref fl),v3,v4,v5,v6,v7,v8,v9] H'
theorem z5s {f:Addr} {cdv:Value} {A:Around} {outer:List Env} {s:Shared} {H:Hp} {E:XK} {l:Addr} {as:List Addr} {rs:List Row} {fin:Fnd} (hr:Room 7 (A.deeper (envOfC "searched" (ze (top 52)) s.heap.objs.size f cdv)))
  (hS:SqL K H l (as.map V.ref)) (hR:zP H as rs) (hc:Code rs) (FS:FN P w K mg base 5 "state_words" ["code","labels","place","state"] (spSw K)) (FN':FN P w K mg base 4 "next_states" ["code","labels","place","state"] (Jq K)):
  PS (cxOf CX0 P w K mg base N54 "searched" (ze (top 52)) f cdv A outer s H E).nox z7M (z7O K H l rs fin):=by
 have hr5:=hr.mono (show 5≤7 by decide)
 refine PS.imp (QU PassesOwn.never (ZV (pv 4) (fun _=>rfl))
   (z8 (zC (i:=5) sc52.nd rfl (Or.inl rfl) (z5L PySem.F.plainAttrs_list PySem.F.slot_list_pop PySem.F.type_list_pop z4o (pv 4) (z6 zh z7)))
   (z8 (zC (i:=6) sc52.nd rfl (Or.inl rfl) (zp FS hr5 rfl (z6 (pv 0) (z6 (pv 1) (z6 (pv 5) (z6 (qa zK (pv 2) (pv 5) (fun _ _=>rfl)) z7))))))
   (z8 (qg (ZV (pv 6) (fun _=>rfl)) jx zH)
   (zf (z83 hr hS hR hc FN')))))) ?_
 rintro D σ H3 ⟨d,fl,wd,wl,f0,rfl,hfin,Z0,q⟩
 refine ⟨fun m σ H2=>∃fo wa v5 v6 v7 v8 v9,σ=[some (.ref l),some (.ref d),some (.ref fl),some (.ref wd),some (.ref wl),v5,v6,v7,v8,v9]∧m≤300∧bfs rs m fo wa=some fin∧Srch K H H2 d fl wd wl rs fo wa (301 - m) (3 * (301 - m)),⟨300,f0,[0],none,none,none,none,none,rfl,kc _,hfin,Z0⟩,?_⟩
 clear Z0
 rintro m σ H2 ⟨fo,wa,v5,v6,v7,v8,v9,rfl,hm,hb,S⟩
 refine ⟨_,rfl,!wa.isEmpty,.inl ⟨_,SqL.of S.wts,by rw [List.isEmpty_map]⟩,?_⟩
 cases wa with
 | nil=>
  have hb:some fo=some fin:=by unfold bfs at hb;exact hb
  cases hb
  obtain ⟨fvs,hfl2,hF⟩:=S.fnd
  exact iteF (q _ _ _ _ _ _ _ _ fvs H2 S.same S.nf hfl2 hF)
 | cons p wa=>
  cases m with
  | zero=>unfold bfs at hb;cases hb
  | succ n=>
   unfold bfs at hb
   cases hrp:rs[p]? with
   | none=>rw [hrp] at hb;cases hb
   | some r=>
    cases hfp:fo[p]? with
    | none=>rw [hrp,hfp] at hb;cases hb
    | some o=>
     cases o with
     | none=>rw [hrp,hfp] at hb;cases hb
     | some st=>
      rw [hrp,hfp] at hb
      dsimp only at hb
      by_cases hw:(jt rs p r st.1 st.2.getLast?).isEmpty=true∧st.2.length≤1000
      case neg=>rw [kq hw] at hb;cases hb
      rw [kr hw] at hb
      obtain ⟨hw,hz⟩:=hw
      cases hrel:Zd (j7 rs p r st) fo wa with
      | none=>rw [hrel] at hb;cases hb
      | some fw=>
       obtain ⟨foE,waE⟩:=fw
       rw [hrel] at hb
       dsimp only at hb
       refine iteT ⟨fun σ' H'=>∃v5 v6 v7 v8 v9,σ'=[some (.ref l),some (.ref d),some (.ref fl),some (.ref wd),some (.ref wl),v5,v6,v7,v8,v9]∧Srch K H H' d fl wd wl rs foE waE (301 - n) (3 * (301 - n)),fun σ' H' ⟨v5,v6,v7,v8,v9,e,S'⟩=>⟨n,kX _,foE,waE,v5,v6,v7,v8,v9,e,by lia,hb,S'⟩,?_⟩
       obtain ⟨k1,k2,k3⟩:=pop0 (xs:=(p :: wa).map fun p=>V.int (p:Nat)) rfl
       refine ⟨_,rfl,.inl ⟨rfl,_,SqL.of S.wts⟩,wl,_,0,0,_,rfl,rfl,S.wts,by decide,by decide,k1,k2,?_⟩
       rw [k3]
       have S1:=S.pop
       generalize upd H2 wl (.lst (wa.map fun p=>V.int (p:Nat)))=H3 at S1
       obtain ⟨fvs,hfl2,hF⟩:=S1.fnd
       obtain ⟨x,hx,hx2⟩:=hF.get hfp
       obtain ⟨sa,rfl,hsa⟩:=hx2
       refine ⟨_,rfl,_,rfl,_,rfl,_,rfl,_,rfl,fl,_,_,_,rfl,rfl,SqL.of hfl2,zy hx,l,d,p,sa,st,rs,r,rfl,S1.code hS hR hc,hrp,hsa,fun wf H4 s4 hn4 hwf=>?_⟩
       refine ⟨_,rfl,false,.inl ⟨_,SqL.of hwf,by rw [List.isEmpty_map,hw];rfl⟩,iteF ?_⟩
       exact ⟨d,fl,wd,wl,p,r,st,n,_,_,_,_,fo,wa,foE,waE,rfl,by lia,hrp,hfp,hz,hrel,(S1.same' s4).more (by lia) (by lia),fun σ' H' ⟨v5,v6,v7,v8,v9,e⟩ S'=>⟨v5,v6,v7,v8,v9,e,S'⟩⟩
theorem z0w (D:zi K mg "searched" (top 52)) (G:Glo mg) (T:z2a w K mg) (FL:FN P w K mg base 7 "label_places" ["rows"] (z0P K)) (FS:FN P w K mg base 5 "state_words" ["code","labels","place","state"] (spSw K)) (FN':FN P w K mg base 4 "next_states" ["code","labels","place","state"] (Jq K)):
  FN P w K mg base 8 "searched" ["code"] (Qw K):=by
 refine FN.o D sc52 fun f cdv A outer s H vs Q E hr h=>?_
 obtain ⟨l,as,rs,fin,rfl,hS,hR,hc,hfin,q⟩:=h
 have hu:=z4v hr
 have hu3:(A.deeper (envOfC "searched" (ze (top 52)) s.heap.objs.size f cdv)).units+3 < cLine:=by have:=hr.un;lia
 obtain ⟨fa,fg,mfa,tfa,tfg⟩:=T.first
 have hr5:=hr.mono (show 5≤7 by decide)
 have hr4:=hr.mono (show 4≤7 by decide)
 refine ⟨_,z8 (zC (i:=1) sc52.nd rfl (Or.inl rfl) (zp FL hr rfl (z6 (pv 0) z7)))
  (z8 (zC (i:=2) sc52.nd rfl (Or.inl rfl) (zO z6Z (qe (z6 qU z7)) (zw zx rfl G.len zS (z6 (pv 0) z7))))
  (z8 (ZG (Z3 rfl mfa (v:=.ref fa) rfl) (z0U (pv 2) zh ZU))
  (z8 (zC (i:=3) sc52.nd rfl (Or.inl rfl) (z2R (Zf zh (qY (z6 zh z7)) z2I) rfl rfl nofun (by decide)))
  (z8 (zC (i:=4) sc52.nd rfl (Or.inl rfl) (qe (z6 zh z7)))
  (z8 (z5s (fin:=fin) hr hS hR hc FS FN')
  (zf (zv (qY (z6 (pv 2) (z6 qU z7)))))))))),?_⟩
 have hlen:=hc.hi
 have hlo:=hc.lo
 refine ⟨_,rfl,l,as,rs,rfl,hS,hR,hc.ok,by lia,fun d kvs0 H1 hd0 s1 hd1 hL=>?_⟩
 have hll:as.length=rs.length:=hR.len
 refine ⟨by show 1≤sizeLine;decide,fun p0 hp0=>?_⟩
 have t0:=zk hp0 (.lst [V.non])
 refine ⟨_,rfl,l,_,rfl,.inl (t0.seq (s1.seq hS)),p0,_,[V.non],rfl,rfl,zb,?_,?_,?_,fun fl hfl=>?_⟩
 ·rw [kh];lia
 ·rw [kh];lia
 ·rw [kh]
  show 1 * ((as.length:Nat):Int).toNat≤sizeLine
  rw [sizeLine_eq,kW];lia
 have efl:(List.replicate (((as.map V.ref).length:Nat):Int).toNat [V.non]).flatten=List.replicate rs.length V.non:=by
  rw [kW,kh,hll]
  generalize rs.length=n
  induction n with
  | zero=>rfl
  | succ n ih=>rw [List.replicate_succ,List.flatten_cons,ih];rfl
 rw [efl]
 have sA:Same H (upd H1 p0 (.lst [V.non])):=s1.trans t0
 have hfl0:H fl=none:=sA.free hfl
 have nfd:d≠fl:=zc (t0 _ _ hd1) hfl
 refine ⟨_,rfl,fl,_,0,0,rfl,rfl,zb,?_,?_⟩
 ·unfold ixN
  rw [kr (by decide),kr (by rw [List.length_replicate];lia)]
  rfl
 rw [z5v]
 have f0:qv K (upd (upd H1 p0 (.lst [V.non])) fl (.lst ((List.replicate rs.length V.non).set 0 (.ref fa)))) ((List.replicate rs.length V.non).set 0 (.ref fa)) ((List.replicate rs.length none).set 0 (some (0,[]))):=
  qv.set (st:=(0,[])) ⟨fg,tfa.sq _,[],tfg.sq _,.nil⟩ 0 (QH _ _ _)
 generalize hfv:(List.replicate rs.length V.non).set 0 (V.ref fa)=fvs0 at f0
 intro wd hwd
 have sB:Same H (upd (upd H1 p0 (.lst [V.non])) fl (.lst fvs0)):=fun b o e=>by rw [zg (zc e hfl0)];exact sA _ _ e
 generalize hHB:upd (upd H1 p0 (.lst [V.non])) fl (.lst fvs0)=HB at *
 have hflB:HB fl=some (.lst fvs0):=by rw [←hHB];exact zb
 have hdB:HB d=some (.dK kvs0):=by rw [←hHB,zg nfd];exact t0 _ _ hd1
 have hwd0:H wd=none:=sB.free hwd
 have s3:=zk hwd (.dK [])
 refine ⟨by show 1≤sizeLine;decide,fun p1 hp1=>?_⟩
 have s4:=zk hp1 (.tup [V.int 0])
 refine ⟨s4 _ _ zb,[(Sum.inl 0,.ref p1)],rfl,(by show 1≤15;decide),?_⟩
 have em:ZI [] [((Sum.inl 0:Key),V.ref p1)]=[(Sum.inl 0,V.ref p1)]:=rfl
 rw [em]
 refine ⟨by show 1≤sizeLine;decide,fun wl hwl=>?_⟩
 have npw:p1≠wd:=(zc (H:=upd HB wd (.dK [])) zb hp1).symm
 have hwl':wl≠wd:=fun z=>by rw [z,zb] at hwl;cases hwl
 have hwl2:(upd (upd HB wd (.dK [])) p1 (.tup [V.int 0])) wl=none:=by rw [zg hwl'] at hwl;exact hwl
 have sC:Same HB (upd (upd HB wd (.dK [])) p1 (.tup [V.int 0])):=s3.trans s4
 have hwlB:HB wl=none:=sC.free hwl2
 have sD:Same HB (upd (upd (upd (upd HB wd (.dK [])) p1 (.tup [V.int 0])) wd (.dK [(Sum.inl 0,V.ref p1)])) wl (.lst [V.int 0])):=fun b o e=>by
  rw [zg (zc e hwlB),zg (zc e hwd)];exact sC _ _ e
 generalize hHD:upd (upd (upd (upd HB wd (.dK [])) p1 (.tup [V.int 0])) wd (.dK [(Sum.inl 0,V.ref p1)])) wl (.lst [V.int 0])=HD at *
 have hp1D:HD p1=some (.tup [V.int 0]):=by
  rw [←hHD,zg (fun z=>by rw [←z,zb] at hwl2;cases hwl2),zg npw];exact zb
 have hwdD:HD wd=some (.dK [(Sum.inl 0,V.ref p1)]):=by rw [←hHD,zg hwl'.symm];exact zb
 have hwlD:HD wl=some (.lst [V.int 0]):=by rw [←hHD];exact zb
 have Z0:Srch K H HD d fl wd wl rs ((List.replicate rs.length none).set 0 (some (0,[]))) [0] (301 - 300) (3 * (301 - 300)):=by
  refine ⟨sB.trans sD,⟨kvs0,sD _ _ hdB,hL⟩,hfl0,hwd0,sB.free hwlB,⟨fvs0,sD _ _ hflB,f0.keep (qx.of sD)⟩,⟨_,hwdD,fun p st e=>?_,(by show 1≤3;decide)⟩,hwlD,(by show 1≤3;decide),by simp,zc hdB hwd,zc hflB hwlB⟩
  have hp:p=0:=by
   rw [List.getElem?_set] at e
   by_cases z:0=p
   ·exact z.symm
   ·rw [kq z,List.getElem?_replicate] at e
    split at e <;> cases e
  subst hp
  exact ⟨p1,_,rfl,hp1D,nofun,(by show 1≤1;decide)⟩
 refine ⟨d,fl,wd,wl,_,rfl,hfin,Z0,fun v1 v3 v4 v5 v6 v7 v8 v9 fvs H' s' _ h1 h2=>?_⟩
 refine ⟨_,rfl,by show 2≤sizeLine;decide,fun t ht=>?_⟩
 have st:=zk ht (.tup [V.ref fl,.non])
 exact q t fl fvs _ (s'.trans st) (s'.free ht) hfl0 zb (st _ _ h1) (h2.keep (qx.of st))
end
section
def z0O (K:ko):Sp:=fun vs H Q _=>∃l as rs fin,vs=[.ref l]∧H l=some (.lst (as.map V.ref))∧zP H as rs∧Code rs∧qR rs=some fin∧
 ∀fl fvs H',Same H H'→H fl=none→H' fl=some (.lst fvs)→qv K H' fvs fin→Q (.ref fl) H'
theorem sc53:zn ["code","found","reason"] ["code"] (ze (top 53)):=fsM
theorem z3m (D:zi K mg "states" (top 53)) (FC:FN P w K mg base 9 "check_code" ["thing"] z2w) (FS:FN P w K mg base 8 "searched" ["code"] (Qw K)):FN P w K mg base 10 "states" ["code"] (z0O K):=by
 refine FN.o D sc53 fun f cdv A outer s H vs Q E hr h=>?_
 obtain ⟨l,as,rs,fin,rfl,hl,hR,hc,hfin,q⟩:=h
 refine ⟨_,z8 (zj (zp FC hr rfl (z6 (pv 0) z7)))
  (z8 (ZG (zp FS (hr.mono (by decide)) rfl (z6 (pv 0) z7)) (jU rfl (zA (zu (i:=1) sc53.nd rfl (Or.inl rfl)) (zA (zu (i:=2) sc53.nd rfl (Or.inl rfl)) qA))))
  (z8 (qg (zr z0r (pv 2) qU (zB _)) jx zH) (zf (zv (pv 1))))),?_⟩
 refine ⟨_,rfl,l,as,rs,rfl,hl,hR,hc,fun H1 s1=>?_⟩
 refine ⟨_,rfl,l,as,rs,fin,rfl,SqL.of (s1 _ _ hl),hR.same s1,hc,hfin,fun t fl fvs H2 s2 ht hfl h1 h2 h3=>?_⟩
 refine ⟨t,_,rfl,SqT.of h1,rfl,_,_,rfl,_,_,rfl,rfl,?_⟩
 exact ⟨_,rfl,rfl,_,rfl,iteF ⟨_,rfl,q fl fvs H2 (s1.trans s2) (s1.free hfl) h2 h3⟩⟩
end
structure z51 (rs:List Row) (S:Fnd):Prop where
 len:S.length=rs.length
 zero:S[0]?=some (some (0,[]))
 here:∀(p:Nat) r s,rs[p]?=some r→S[p]?=some (some s)→jt rs p r s.1 s.2.getLast?=[]∧s.2.length≤1000
 next:∀(p:Nat) r s,rs[p]?=some r→S[p]?=some (some s)→∀x s',(x,s')∈j7 rs p r s→∃j:Nat,x=.int (j:Int)∧S[j]?=some (some s')
def Sub (f S:Fnd):Prop:=∀(p:Nat) s,f[p]?=some (some s)→S[p]?=some (some s)
noncomputable def J1 (f:Fnd):Nat:=(f.filter Option.isNone).length
theorem Qf:∀{f:Fnd} {j:Nat} {s:Sta},f[j]?=some none→J1 (f.set j (some s))+1=J1 f
 | [],_,_,h=>by cases h
 | o :: f,0,s,h=>by
  cases h
  rfl
 | o :: f,j+1,s,h=>by
  have ih:=Qf (f:=f) (j:=j) (s:=s) h
  unfold J1 at ih ⊢
  rw [List.set_cons_succ,List.filter_cons,List.filter_cons]
  cases o with
  | none=>simp only [Option.isNone_none,if_true,kL];lia
  | some x=>simp only [Option.isNone_some,Bool.false_eq_true,if_false];exact ih
theorem QS {S:Fnd}:∀(ns:List (V × Sta)) (f:Fnd) (w:List Nat),(∀x s',(x,s')∈ns→∃j:Nat,x=.int (j:Int)∧S[j]?=some (some s'))→f.length=S.length→Sub f S→(∀p∈w,∃s,f[p]?=some (some s))→
  ∃f' w',Zd ns f w=some (f',w')∧f'.length=S.length∧Sub f' S∧(∀p∈w',∃s,f'[p]?=some (some s))∧J1 f'+w'.length=J1 f+w.length∧(∀(p:Nat) s,f[p]?=some (some s)→f'[p]?=some (some s))
 | [],f,w,_,hl,hs,hw=>⟨f,w,rfl,hl,hs,hw,rfl,fun _ _ e=>e⟩
 | (x,s) :: ns,f,w,hn,hl,hs,hw=>by
  obtain ⟨j,rfl,hj⟩:=hn x s (kM ..)
  have hjl:j < f.length:=by rw [hl];exact (ke.mp hj).1
  have hn':=fun x s' h=>hn x s' (kN _ h)
  unfold Zd
  dsimp only
  rw [kr (by lia),kW]
  cases e:f[j]? with
  | none=>rw [kH hjl] at e;cases e
  | some o=>
   cases o with
   | none=>
    dsimp only
    have keep:∀(p:Nat) s0,f[p]?=some (some s0)→(f.set j (some s))[p]?=some (some s0):=fun p s0 h=>by
     by_cases hp:p=j
     ·subst hp;rw [e] at h;cases h
     ·rw [List.getElem?_set_ne (Ne.symm hp)];exact h
    obtain ⟨f',w',h1,h2,h3,h4,h5,h6⟩:=QS ns (f.set j (some s)) (w++[j]) hn' (by rw [List.length_set];exact hl)
     (fun p s0 h=>by
      by_cases hp:p=j
      ·subst hp
       rw [List.getElem?_set_self hjl] at h
       cases h
       exact hj
      ·rw [List.getElem?_set_ne (Ne.symm hp)] at h
       exact hs p s0 h)
     (fun p hp=>by
      rcases kO.mp hp with h | h
      ·obtain ⟨s0,h⟩:=hw p h
       exact ⟨s0,keep p s0 h⟩
      ·rw [kl.mp h]
       exact ⟨s,List.getElem?_set_self hjl⟩)
    refine ⟨f',w',h1,h2,h3,h4,?_,fun p s0 h=>h6 p s0 (keep p s0 h)⟩
    have:=Qf (s:=s) e
    rw [ki,kC] at h5
    lia
   | some s'=>
    have e2:s'=s:=by
     have:=hs j s' e
     rw [hj] at this
     cases this
     rfl
    dsimp only
    rw [kr e2]
    exact QS ns f w hn' hl hs hw
theorem z5p {rs:List Row} {S:Fnd} (T:z51 rs S):∀(n:Nat) (f:Fnd) (w:List Nat),f.length=S.length→Sub f S→(∀p∈w,∃s,f[p]?=some (some s))→J1 f+w.length≤n→
  ∃fin,bfs rs n f w=some fin∧fin.length=S.length∧Sub fin S
 | n,f,[],hl,hs,_,_=>⟨f,by cases n <;> rfl,hl,hs⟩
 | 0,f,p :: w,_,_,_,hn=>by simp at hn
 | n+1,f,p :: w,hl,hs,hw,hn=>by
  obtain ⟨s,hp⟩:=hw p (kM ..)
  have hS:=hs p s hp
  have hpl:p < rs.length:=by rw [←T.len];exact (ke.mp hS).1
  have er:rs[p]?=some rs[p]:=kH hpl
  obtain ⟨h1,h2⟩:=T.here p rs[p] s er hS
  unfold bfs
  rw [er,hp]
  dsimp only
  rw [kr ⟨by rw [h1];rfl,h2⟩]
  obtain ⟨f',w',e1,e2,e3,e4,e5,_⟩:=QS (j7 rs p rs[p] s) f w (T.next p rs[p] s er hS) hl hs fun q hq=>hw q (kN _ hq)
  rw [e1]
  dsimp only
  rw [kL] at hn
  exact z5p T n f' w' e2 e3 e4 (by lia)
theorem JF:∀n:Nat,J1 (List.replicate n none)=n
 | 0=>rfl
 | n+1=>by
  have ih:=JF n
  unfold J1 at ih ⊢
  rw [List.replicate_succ,List.filter_cons]
  simp only [Option.isNone_none,if_true,kL]
  lia
theorem z2p {rs:List Row} {S:Fnd} (T:z51 rs S) (hn:rs.length≤299):∃fin,qR rs=some fin∧fin.length=rs.length∧Sub fin S:=by
 have h0:0 < rs.length:=by rw [←T.len];exact (ke.mp T.zero).1
 have e0:(List.replicate rs.length (none:Option Sta))[0]?=some none:=by rw [List.getElem?_replicate,kr h0]
 have hset:=Qf (s:=((0,[]):Sta)) e0
 rw [JF] at hset
 obtain ⟨fin,h1,h2,h3⟩:=z5p T 300 ((List.replicate rs.length none).set 0 (some (0,[]))) [0] (by rw [List.length_set,List.length_replicate,T.len])
  (fun p s h=>by
   by_cases hp:p=0
   ·subst hp
    rw [List.getElem?_set_self (by rw [List.length_replicate];exact h0)] at h
    cases h
    exact T.zero
   ·rw [List.getElem?_set_ne (Ne.symm hp),List.getElem?_replicate] at h
    split at h
    ·cases h
    ·cases h)
  (fun p hp=>by
   rw [kl.mp hp]
   exact ⟨_,List.getElem?_set_self (by rw [List.length_replicate];exact h0)⟩)
  (by show J1 _+1≤300;lia)
 exact ⟨fin,h1,by rw [h2,T.len],h3⟩
theorem jJ:∀(ns:List (V × Sta)) (f:Fnd) (w:List Nat) {f':Fnd} {w':List Nat},Zd ns f w=some (f',w')→
  f'.length=f.length∧(∀(p:Nat) s,f[p]?=some (some s)→f'[p]?=some (some s))∧(∀x s',(x,s')∈ns→∃j:Nat,x=.int (j:Int)∧f'[j]?=some (some s'))∧(∀(p:Nat) s,f'[p]?=some (some s)→f[p]?=some (some s)∨(f[p]?=some none∧p∈w'∧(.int (p:Int),s)∈ns))∧∀p∈w,p∈w'
 | [],f,w,f',w',h=>by
  cases h
  exact ⟨rfl,fun _ _ e=>e,fun _ _ h=>(by cases h),fun _ _ e=>.inl e,fun _ h=>h⟩
 | (x,s) :: ns,f,w,f',w',h=>by
  unfold Zd at h
  cases x with
  | int i=>
   dsimp only at h
   by_cases hi:0≤i
   case neg=>rw [kq hi] at h;cases h
   rw [kr hi] at h
   obtain ⟨j,rfl⟩:=kU hi
   rw [kW] at h
   cases e:f[j]? with
   | none=>rw [e] at h;cases h
   | some o=>
    rw [e] at h
    have hj:j < f.length:=(ke.mp e).1
    cases o with
    | none=>
     dsimp only at h
     obtain ⟨a,b,c,d,g⟩:=jJ ns _ _ h
     have keep:∀(p:Nat) s0,f[p]?=some (some s0)→(f.set j (some s))[p]?=some (some s0):=fun p s0 hh=>by
      by_cases hp:p=j
      ·subst hp;rw [e] at hh;cases hh
      ·rw [List.getElem?_set_ne (Ne.symm hp)];exact hh
     have hs:(f.set j (some s))[j]?=some (some s):=List.getElem?_set_self hj
     refine ⟨by rw [a,List.length_set],fun p s0 h=>b p s0 (keep p s0 h),fun x s' hx=>?_,fun p s0 h=>?_,fun p hp=>g p (kK _ hp)⟩
     ·rcases ky.mp hx with z | z
      ·cases z;exact ⟨j,rfl,b j s hs⟩
      ·exact c x s' z
     ·rcases d p s0 h with z | ⟨z1,z2,z3⟩
      ·by_cases hp:p=j
       ·subst hp
        rw [hs] at z
        cases z
        exact .inr ⟨e,g p (kJ _ (kl.mpr rfl)),kM ..⟩
       ·rw [List.getElem?_set_ne (Ne.symm hp)] at z
        exact .inl z
      ·by_cases hp:p=j
       ·subst hp
        rw [hs] at z1
        cases z1
       ·rw [List.getElem?_set_ne (Ne.symm hp)] at z1
        exact .inr ⟨z1,z2,kN _ z3⟩
    | some s1=>
     dsimp only at h
     by_cases hz:s1=s
     case neg=>rw [kq hz] at h;cases h
     rw [kr hz] at h
     obtain ⟨a,b,c,d,g⟩:=jJ ns _ _ h
     refine ⟨a,b,fun x s' hx=>?_,fun p s0 h=>?_,g⟩
     ·rcases ky.mp hx with z | z
      ·cases z;exact ⟨j,rfl,b j _ (by rw [e,hz])⟩
      ·exact c x s' z
     ·rcases d p s0 h with z | ⟨z1,z2,z3⟩
      ·exact .inl z
      ·exact .inr ⟨z1,z2,kN _ z3⟩
  | _=>cases h
def z7y (rs:List Row) (f:Fnd) (p:Nat) (s:Sta):Prop:=∃r,rs[p]?=some r∧jt rs p r s.1 s.2.getLast?=[]∧s.2.length≤1000∧∀x s',(x,s')∈j7 rs p r s→∃j:Nat,x=.int (j:Int)∧f[j]?=some (some s')
structure BInv (rs:List Row) (f:Fnd) (w:List Nat):Prop where
 len:f.length=rs.length
 zero:f[0]?=some (some (0,[]))
 done:∀(p:Nat) s,f[p]?=some (some s)→p∈w∨z7y rs f p s
 from_:∀(p:Nat) s,f[p]?=some (some s)→p=0∨∃q r sq,q≠p∧rs[q]?=some r∧f[q]?=some (some sq)∧(V.int (p:Int),s)∈j7 rs q r sq
theorem z1n {rs:List Row}:∀(n:Nat) (f:Fnd) (w:List Nat) {fin:Fnd},BInv rs f w→bfs rs n f w=some fin→BInv rs fin []
 | n,f,[],fin,I,h=>by
  have:bfs rs n f []=some f:=by cases n <;> rfl
  rw [this] at h
  cases h
  exact I
 | 0,f,p :: w,fin,I,h=>by cases h
 | n+1,f,p :: w,fin,I,h=>by
  unfold bfs at h
  cases hr:rs[p]? with
  | none=>rw [hr] at h;cases h
  | some r=>
   cases hp:f[p]? with
   | none=>rw [hr,hp] at h;cases h
   | some o=>
    cases o with
    | none=>rw [hr,hp] at h;cases h
    | some s=>
     rw [hr,hp] at h
     dsimp only at h
     by_cases hz:(jt rs p r s.1 s.2.getLast?).isEmpty=true∧s.2.length≤1000
     case neg=>rw [kq hz] at h;cases h
     rw [kr hz] at h
     cases hx:Zd (j7 rs p r s) f w with
     | none=>rw [hx] at h;cases h
     | some fw=>
      obtain ⟨f',w'⟩:=fw
      rw [hx] at h
      dsimp only at h
      obtain ⟨a,b,c,d,g⟩:=jJ _ _ _ hx
      refine z1n n f' w' ⟨by rw [a,I.len],b _ _ I.zero,fun q sq hq=>?_,fun q sq hq=>?_⟩ h
      ·rcases d q sq hq with z | ⟨z1,z2,z3⟩
       ·rcases I.done q sq z with y | ⟨r',y1,y2,y3,y4⟩
        ·rcases ky.mp y with y | y
         ·subst y
          rw [hp] at z
          cases z
          exact .inr ⟨r,hr,List.isEmpty_iff.mp hz.1,hz.2,c⟩
         ·exact .inl (g q y)
        ·exact .inr ⟨r',y1,y2,y3,fun x s' hx=>let ⟨j,e1,e2⟩:=y4 x s' hx;⟨j,e1,b _ _ e2⟩⟩
       ·exact .inl z2
      ·rcases d q sq hq with z | ⟨z1,z2,z3⟩
       ·rcases I.from_ q sq z with y | ⟨q',r',sq',y1,y2,y3,y4⟩
        ·exact .inl y
        ·exact .inr ⟨q',r',sq',y1,y2,b _ _ y3,y4⟩
       ·refine .inr ⟨p,r,s,fun y=>?_,hr,b _ _ hp,z3⟩
        subst y
        rw [hp] at z1
        cases z1
theorem z0f {rs:List Row} {fin:Fnd} (h0:0 < rs.length) (h:qR rs=some fin):BInv rs fin []:=by
 unfold qR at h
 refine z1n 300 _ _ ⟨by rw [List.length_set,List.length_replicate],List.getElem?_set_self (by rw [List.length_replicate];exact h0),fun p s hp=>?_,fun p s hp=>?_⟩ h
 all_goals
  by_cases z:p=0
  ·first
    | exact .inl (by rw [z];exact kl.mpr rfl)
    | exact .inl z
  ·rw [List.getElem?_set_ne (Ne.symm z),List.getElem?_replicate] at hp
   split at hp <;> cases hp
end My
namespace L2
open PySem PySem.Spec PyProof.Rows
section
variable {X:Cx}
end
end L2
namespace L2
open PySem PySem.Spec PyProof.Rows
section
variable {X:Cx} {pins:List (Addr × Obj)} {σ:St} {H:Hp} {s:Shared}
end
end L2
namespace L2
open PySem PySem.Spec PyProof.Rows
section
variable {X:Cx}
end
end L2
namespace L2
open PySem PySem.Spec PyProof.Rows
section
variable {X:Cx}
end
end L2
namespace L2
open PySem PySem.Spec PyProof.Rows
theorem z2e {n l1 l2:Nat} (h1:l1 < n) (h2:l2 < n):ZipApart (n+4) (n+2) (n+3) n (n+1) l1 l2:=by
 constructor
 all_goals (show ¬((_:Nat)=_);lia)
theorem z4T:bootBuiltins "zip"=some (.type "zip"):=by trivial
section
variable {X:Cx}
end
end L2
namespace L2
open PySem PySem.Spec PyProof.Rows
theorem JY {prog:Program} {w:World} {A:Around} {R:Result→Shared→Prop} {s:Shared} {elt t1 i1 t2 i2:Expr} {scope:Scope} {pos:Pos} {it acc:Value} {env:Env}
  (h0:codeAny (model prog w) A (.compLoop (.ListComp elt [⟨t1,i1,[],0⟩,⟨t2,i2,[],0⟩] scope pos) 1 it acc env) R s)
  (h:wpAny (model prog w) A (pyIter it) (fun it' s'=>codeAny (model prog w) A (.compLoop (.ListComp elt [⟨t1,i1,[],0⟩,⟨t2,i2,[],0⟩] scope pos) 1 it' acc env) R s') (notedBy (model prog w) A env fun x s'=>R (.error x) s') s):
  codeAny (model prog w) A (.compStart (.ListComp elt [⟨t1,i1,[],0⟩,⟨t2,i2,[],0⟩] scope pos) 1 it acc env) R s:=by
 refine codeAny_of_tree (id (wpAny_notedAt ?_))
 show wpAny _ _ (compStart (.ListComp elt [⟨t1,i1,[],0⟩,⟨t2,i2,[],0⟩] scope pos) 1 it acc env) _ _ s
 unfold compStart
 show wpAny _ _ (do
   let st ←ask
   if st.params.followText "comprehension-iter-twice"=true then again (.compLoop (.ListComp elt [⟨t1,i1,[],0⟩,⟨t2,i2,[],0⟩] scope pos) 1 it acc env)
   else do
    rule "comprehension.iter-twice"
    standAt i2.pos
    let it' ←pyIter it
    again (.compLoop (.ListComp elt [⟨t1,i1,[],0⟩,⟨t2,i2,[],0⟩] scope pos) 1 it' acc env)) _ _ s
 refine wpAny_bind (wpAny_askSetting (wpAny_ite ?_))
 split
 ·exact wpAny_pure ⟨rfl,h0⟩
 ·exact wpAny_bind (wpAny_rule (wpAny_bind (wpAny_standAt (wpAny_bind (wpAny_mono h (fun it' s' h'=>wpAny_pure ⟨rfl,h'⟩) fun _ _ e=>e)))))
theorem Jh (elt t1 i1 t2 i2:Expr) (scope:Scope) (pos:Pos) (it acc:Value) (env:Env):
  compTurn (.ListComp elt [⟨t1,i1,[],0⟩,⟨t2,i2,[],0⟩] scope pos) 0 it acc env=(do
   standAt i1.pos
   let r ←pyNext it
   match r with
   | none=>pure (.done .next)
   | some v=>do
    letOwnedTupleGo t1 it v
    assign t1 env v
    let ok ←forIn ([]:List Expr) true fun c r=>if r=true then do let ok ←isTrue c env (eval c env);pure (ForInStep.yield ok) else pure (ForInStep.yield r)
    if ok=true then do
     let x ←eval i2 env
     standAt i2.pos
     let x ←foldedSetIterable i2 env x
     let it2 ←holding [x] (pyIter x)
     let _ ←runOwn (.compStart (.ListComp elt [⟨t1,i1,[],0⟩,⟨t2,i2,[],0⟩] scope pos) 1 it2 acc env) env
     again (.compLoop (.ListComp elt [⟨t1,i1,[],0⟩,⟨t2,i2,[],0⟩] scope pos) 0 it acc env)
    else again (.compLoop (.ListComp elt [⟨t1,i1,[],0⟩,⟨t2,i2,[],0⟩] scope pos) 0 it acc env)):=rfl
theorem Jg (elt t1 i1 t2 i2:Expr) (scope:Scope) (pos:Pos) (it acc:Value) (env:Env):
  compTurn (.ListComp elt [⟨t1,i1,[],0⟩,⟨t2,i2,[],0⟩] scope pos) 1 it acc env=(do
   standAt i2.pos
   let r ←pyNext it
   match r with
   | none=>pure (.done .next)
   | some v=>do
    letOwnedTupleGo t2 it v
    assign t2 env v
    let ok ←forIn ([]:List Expr) true fun c r=>if r=true then do let ok ←isTrue c env (eval c env);pure (ForInStep.yield ok) else pure (ForInStep.yield r)
    if ok=true then do
     let _ ←(do
      let x ←eval elt env
      let _ ←call (.builtin "list.append") [acc,x]
      pure ())
     again (.compLoop (.ListComp elt [⟨t1,i1,[],0⟩,⟨t2,i2,[],0⟩] scope pos) 1 it acc env)
    else again (.compLoop (.ListComp elt [⟨t1,i1,[],0⟩,⟨t2,i2,[],0⟩] scope pos) 1 it acc env)):=rfl
theorem z0E {prog:Program} {w:World} {A:Around} {R:Result→Shared→Prop} {s:Shared} {elt t1 i1 t2 i2:Expr} {scope:Scope} {pos:Pos} {it acc:Value} {env:Env} (I:Nat→Shared→Prop)
  (turn:∀n s,I n s→wpAny (model prog w) A (pyNext it) (fun r s₁=>match r with
   | none=>R (.ok .next) s₁
   | some v=>wpAny (model prog w) A (letOwnedTupleGo t2 it v) (fun _ s₁'=>wpAny (model prog w) A (assign t2 env v) (fun _ s₂=>wpAny (model prog w) A (eval elt env) (fun x s₃=>
      wpAny (model prog w) A (call (.builtin "list.append") [acc,x]) (fun _ s₄=>∃m,m < n∧I m s₄) (fun _ _=>False) s₃)
     (fun _ _=>False) s₂) (fun _ _=>False) s₁') (fun _ _=>False) s₁) (fun _ _=>False) s)
  (n:Nat) (h:I n s):codeAny (model prog w) A (.compLoop (.ListComp elt [⟨t1,i1,[],0⟩,⟨t2,i2,[],0⟩] scope pos) 1 it acc env) R s:=by
 refine codeAny_loop rfl I (fun n s hI=>?_) n h
 show wpAny _ _ ((compTurn (.ListComp elt [⟨t1,i1,[],0⟩,⟨t2,i2,[],0⟩] scope pos) 1 it acc env).onRaise (fun x=>do noteFrame x env;theTreesLotGoes x)) _ _ s
 refine wpAny_noted ?_
 rw [Jg]
 refine wpAny_bind (wpAny_standAt (wpAny_bind (wpAny_mono (turn n s hI) (fun r s₁ h₁=>?_) fun _ _ h'=>h'.elim)))
 cases r with
 | none=>exact wpAny_pure h₁
 | some v=>
  refine wpAny_bind (wpAny_mono h₁ (fun _ s₁' h₁'=>?_) fun _ _ h'=>h'.elim)
  refine wpAny_bind (wpAny_mono h₁' (fun _ s₂ h₂=>wpAny_bind (wpAny_tests_nil ?_)) fun _ _ h'=>h'.elim)
  rw [kr rfl]
  exact wpAny_bind (wpAny_bind (wpAny_mono h₂ (fun x s₃' h₃'=>wpAny_bind (wpAny_mono h₃' (fun _ s₄ h₄=>wpAny_pure (wpAny_pure ⟨rfl,h₄⟩)) fun _ _ h'=>h'.elim)) fun _ _ h'=>h'.elim))
theorem JZ {prog:Program} {w:World} {A:Around} {R:Result→Shared→Prop} {s:Shared} {elt t1 i1 t2 i2:Expr} {scope:Scope} {pos:Pos} {it acc:Value} {env:Env} (I:Nat→Shared→Prop) (hs:∀x,foldedSetIterable i2 env x=pure x)
  (turn:∀n s,I n s→wpAny (model prog w) A (pyNext it) (fun r s₁=>match r with
   | none=>R (.ok .next) s₁
   | some v=>wpAny (model prog w) A (letOwnedTupleGo t1 it v) (fun _ s₁'=>wpAny (model prog w) A (assign t1 env v) (fun _ s₂=>wpAny (model prog w) A (eval i2 env) (fun x s₃=>
      wpAny (model prog w) A (pyIter x) (fun it2 s₄=>codeAny (model prog w) A (.compStart (.ListComp elt [⟨t1,i1,[],0⟩,⟨t2,i2,[],0⟩] scope pos) 1 it2 acc env) (fun r s₅=>r=.ok .next∧∃m,m < n∧I m s₅) s₄) (fun _ _=>False) s₃)
     (fun _ _=>False) s₂) (fun _ _=>False) s₁') (fun _ _=>False) s₁) (fun _ _=>False) s)
  (n:Nat) (h:I n s):codeAny (model prog w) A (.compLoop (.ListComp elt [⟨t1,i1,[],0⟩,⟨t2,i2,[],0⟩] scope pos) 0 it acc env) R s:=by
 refine codeAny_loop rfl I (fun n s hI=>?_) n h
 show wpAny _ _ ((compTurn (.ListComp elt [⟨t1,i1,[],0⟩,⟨t2,i2,[],0⟩] scope pos) 0 it acc env).onRaise (fun x=>do noteFrame x env;theTreesLotGoes x)) _ _ s
 refine wpAny_noted ?_
 rw [Jh]
 refine wpAny_bind (wpAny_standAt (wpAny_bind (wpAny_mono (turn n s hI) (fun r s₁ h₁=>?_) fun _ _ h'=>h'.elim)))
 cases r with
 | none=>exact wpAny_pure h₁
 | some v=>
  refine wpAny_bind (wpAny_mono h₁ (fun _ s₁' h₁'=>?_) fun _ _ h'=>h'.elim)
  refine wpAny_bind (wpAny_mono h₁' (fun _ s₂ h₂=>wpAny_bind (wpAny_tests_nil ?_)) fun _ _ h'=>h'.elim)
  rw [kr rfl]
  refine wpAny_bind (wpAny_mono h₂ (fun x s₃ h₃=>wpAny_bind (wpAny_standAt ?_)) fun _ _ h'=>h'.elim)
  rw [hs]
  refine wpAny_bind (wpAny_pure (wpAny_bind (wpAny_holding (wpAny_mono h₃ (fun it2 s₄ h₄=>?_) fun _ _ h'=>h'.elim))))
  refine wpAny_bind (wpAny_runOwn ?_)
  refine codeAny_mono h₄ fun r s₅ q=>?_
  obtain ⟨rfl,q⟩:=q
  exact wpAny_pure ⟨rfl,q⟩
def z6H (nt:Nat) (ix:List Nat) (wi:TI) (g:TG) (wi2:TI) (g2:TG) (te:TE):TE:=fun σ H Q=>wi σ H fun J H1=>∀l,H1 l=none→∃W:Nat→Nat→List V→St→Hp→Prop,(∃m,W 0 m [] (qt nt ix σ) (upd H1 l (.lst [])))∧∀i m ys σ' H2,W i m ys σ' H2→
 (J.stop i H2∧Q (.ref l) H2)∨(J.go i H2∧∀x H3,J.yld i H2 x H3→g x σ' H3 fun σ2 H4=>wi2 σ2 H4 fun J2 H5=>∃W2:Nat→Nat→List V→St→Hp→Prop,(∃m2,W2 0 m2 ys σ2 H5)∧∀i2 m2 ys2 σ3 H6,W2 i2 m2 ys2 σ3 H6→
    (J2.stop i2 H6∧∃m',m' < m∧W (i+1) m' ys2 σ3 H6)∨(J2.go i2 H6∧∀x H7,J2.yld i2 H6 x H7→g2 x σ3 H7 fun σ4 H8=>te σ4 H8 fun v H9=>H9 l=some (.lst ys2)∧ys2.length < sizeLine∧∃m',m' < m2∧W2 (i2+1) m' (ys2++[v]) σ4 (upd H9 l (.lst (ys2++[v])))))
section
variable {X:Cx}
theorem z0D {elt iter tg iter2 tg2:Expr} {N:List Str} {nt:Nat} {ix:List Nat} {scope:Scope} {cl:List (Str × Addr)} {pos:Pos} {pins:List (Addr × Obj)} {σ:St} {H:Hp} {s:Shared} {it:Addr} {fp:List Addr} {tn:Nat→Heap→Prop} {J:It} {g g2:TG} {wi2:TI} {te:TE} {Q:VK} {E:Value→Shared→Prop}
  {RR:Value→Addr→Result→Shared→Prop}
  (hc:X.calm=true) (sc:qf X N nt ix scope cl) (I:Inv X pins σ H s) (T:Turn X.prog X.w X.K tg J fp it tn) (st:tn 0 s.heap) (hf:∀b∈fp,FpOk X pins H b)
  (hg:∀(s:Shared) (H:Hp) (fp:List Addr) (C:Addr),PG (zo X N scope cl s H fp C) tg g)
  (hi2:∀(s:Shared) (H:Hp) (fp:List Addr) (C:Addr),PI (zo X N scope cl s H fp C) tg2 iter2 wi2)
  (hg2:∀(s:Shared) (H:Hp) (fp:List Addr) (C:Addr),PG (zo X N scope cl s H fp C) tg2 g2)
  (hs2:∀x C,foldedSetIterable iter2 (compEnvC scope cl C X.env) x=pure x)
  (he:∀(s:Shared) (H:Hp) (fp:List Addr) (C:Addr),PE (zo X N scope cl s H fp C) elt te)
  (h:∀l,H l=none→∃W:Nat→Nat→List V→St→Hp→Prop,(∃m,W 0 m [] (qt nt ix σ) (upd H l (.lst [])))∧∀i m ys σ' H2,W i m ys σ' H2→
   (J.stop i H2∧Q (.ref l) H2)∨(J.go i H2∧∀x H3,J.yld i H2 x H3→g x σ' H3 fun σ2 H4=>wi2 σ2 H4 fun J2 H5=>∃W2:Nat→Nat→List V→St→Hp→Prop,(∃m2,W2 0 m2 ys σ2 H5)∧∀i2 m2 ys2 σ3 H6,W2 i2 m2 ys2 σ3 H6→
    (J2.stop i2 H6∧∃m',m' < m∧W (i+1) m' ys2 σ3 H6)∨(J2.go i2 H6∧∀x H7,J2.yld i2 H6 x H7→g2 x σ3 H7 fun σ4 H8=>te σ4 H8 fun v H9=>H9 l=some (.lst ys2)∧ys2.length < sizeLine∧∃m',m' < m2∧W2 (i2+1) m' (ys2++[v]) σ4 (upd H9 l (.lst (ys2++[v]))))))
  (hRR:∀D C s' H' m,Inv X pins σ H' s'→s'.heap.Ns C m→C≠X.env.locals→H' C=none→X.s₀.heap.objs.size≤C→(∀x c,X.env.cells.lookup x=some c→c≠C)→(∀p∈X.pn++pins,p.1≠C)→Q (.ref D) H'→RR (.ref D) C (.ok .next) s'):
  wpAny (model X.prog X.w) X.A (newList []) (fun acc s₃=>wpAny (model X.prog X.w) X.A (newFunctionEnv scope X.env.globals cl [] X.env.qual none .none (some X.env)) (fun cenv s₄=>
   codeAny (model X.prog X.w) X.A (.compStart (.ListComp elt [⟨tg,iter,[],0⟩,⟨tg2,iter2,[],0⟩] scope pos) 0 (.ref it) acc { cenv with scope:=relabel scope X.env }) (RR acc cenv.locals) s₄) E s₃) E s:=by
 refine wpAny_newObj_type ?_
 have I3:Inv X pins σ (upd H s.heap.objs.size (.lst [])) { s with heap:=s.heap.push { cls:=.type "list",data:=.seq ([]:List Value).toArray } }:=I.lnew (ys:=[]) (its:=[]) (t':=s.toks) .nil (Nat.zero_le _)
 have st3:tn 0 (s.heap.push { cls:=.type "list",data:=.seq ([]:List Value).toArray }):=T.keep _ _ _ st fun b hb o e=>Heap.get?_push_of_some _ e
 have fpl:∀b∈fp,b < s.heap.objs.size:=fun b hb=>by
  obtain ⟨o,e,_⟩:=T.obj _ _ st b hb
  exact Heap.lt_size e
 obtain ⟨W,⟨m0,w0⟩,turn⟩:=h s.heap.objs.size I.fresh
 have hf3:∀b∈fp,FpOk X pins (upd H s.heap.objs.size (.lst [])) b:=fun b hb=>⟨by rw [zg (Nat.ne_of_lt (fpl b hb))];exact (hf b hb).1,(hf b hb).2⟩
 generalize hD:s.heap.objs.size=D at *
 generalize hH3:upd H D (HO.lst [])=H3 at *
 generalize hs3:({ s with heap:=s.heap.push { cls:=.type "list",data:=.seq ([]:List Value).toArray } }:Shared)=s3 at *
 have hsz3:s3.heap.objs.size=D+1:=by rw [←hs3,←hD];exact Heap.size_push ..
 have st3':tn 0 s3.heap:=by rw [←hs3];exact st3
 refine wpAny_newFunctionEnv (s:=s3) sc.nocell (by intro y hy;simp at hy) (fun h1 hns hsb=>?_) sc.kind
 generalize hC:s3.heap.objs.size=C at *
 have kept:∀b o,s3.heap.get? b=some o→h1.get? b=some o:=fun b o e=>hsb.extBut b o (by rw [←hC];exact Nat.ne_of_lt (Heap.lt_size e)) (Heap.get?_push_of_some _ e)
 show codeAny (model X.prog X.w) X.A (.compStart (.ListComp elt [⟨tg,iter,[],0⟩,⟨tg2,iter2,[],0⟩] scope pos) 0 (.ref it) (.ref D) (compEnvC scope cl C X.env)) (RR (.ref D) C) { s3 with heap:=h1,toks:=s3.toks+0 }
 have fpC:∀b∈fp,b≠C:=fun b hb=>Nat.ne_of_lt (kI (fpl b hb) (by rw [hsz3];exact Nat.le_succ D))
 have cellC:∀x c,cl.lookup x=some c→c≠C:=fun x c e z=>by
  obtain ⟨v,q⟩:=I3.cell x c (sc.sub x c e)
  have:=q.lt
  rw [hC,z] at this
  exact Nat.lt_irrefl _ this
 have ok:(zo X N scope cl s3 H3 fp C).Ok:={
  mod:=I.ok.mod,kind:=(show (relabel scope X.env).kind=.function from sc.kind),glob:=I.ok.glob,blt:=I.ok.blt,above:=kS hC
  inj:=fun y z c e e'=>I.ok.inj y z c (sc.sub y c e) (sc.sub z c e')
  has:=fun y hy=>sc.has y hy
  cab:=fun y c e _=>nomatch e
  hd:=fun _=>I.ok.hd hc
  frames:=I.ok.frames
  stk:=.inl rfl
  exf:=fun b hb=>⟨fpC b hb,fun y c e=>(hf3 b hb).2.2.2.2.1 y c (sc.sub y c e)⟩
  bs:=I3.bs
  bsz:=kn I.ok.bsz I3.sz
  noex:=fun b o e hb=>by
   obtain ⟨_,_,_,h4,_⟩:=hf3 b hb
   rcases h4 with z | z
   ·exact I.ok.noex b o e z
   ·exact absurd (kI (Heap.lt_size (I.ok.bs b o e).1) z) (Nat.lt_irrefl _)
  exfs:=fun b hb z=>by
   obtain ⟨_,h1,h2,_⟩:=hf3 b hb
   rcases ky.mp (I3.stkSub b z) with q | q
   ·exact h1 q
   ·exact h2 q
  funs:=I3.stack
  frf:=I3.stkFree }
 have cellK:∀c v,s3.heap.IsCell c v→h1.IsCell c v:=fun c v ⟨o,ho,hd⟩=>⟨o,kept c o ho,hd⟩
 have I4:Inv (zo X N scope cl s3 H3 fp C) [] (qt nt ix σ) H3 { s3 with heap:=h1,toks:=s3.toks+0 }:={
  ok:=ok,os:=rfl,bare:=I3.bare,base:=Un.kept kept
  loc:=⟨_,hns,fun i y v e1 e2 _=>by
   have e2:(qt nt ix σ)[i]?=some (some v):=e2
   unfold qt at e2
   by_cases hi:i < nt
   ·rw [yc (by simpa using hi),List.getElem?_replicate,kr hi] at e2
    cases e2
   ·obtain ⟨j,rfl⟩:∃j,i=nt+j:=⟨i - nt,by lia⟩
    rw [yd (by simp),List.length_replicate,Nat.add_sub_cancel_left,List.getElem?_map] at e2
    obtain ⟨k,hk,hXN,hkind,hrel,hcl⟩:=sc.free j y e1
    rw [hk] at e2
    have e3:σ[k]?=some (some v):=by
     cases q:σ[k]? with
     | none=>rw [Option.map_some,q] at e2;cases e2
     | some o=>rw [Option.map_some,q] at e2;simpa using e2
    obtain ⟨m,_,hl⟩:=I3.loc
    obtain ⟨u,ru,lk⟩:=hl k y v hXN e3 (.inr (.inl hkind))
    refine ⟨u,ru,.inr ⟨.inl hrel,?_⟩⟩
    rcases lk with ⟨z,_⟩ | ⟨_,c,hcc,hcell⟩
    ·rw [hkind] at z;cases z
    ·exact ⟨c,hcl c hcc,cellK _ _ hcell⟩⟩
  cell:=fun y c e=>let ⟨v,q⟩:=I3.cell y c (sc.sub y c e);⟨v,cellK _ _ q⟩
  free:=I3.hok.fresh (kS hC)
  freeC:=fun y c e=>I3.freeC y c (sc.sub y c e)
  pin:=fun p hp=>absurd (show p∈([]:List (Addr × Obj)) from hp) (by simp)
  hok:=I3.hok.kept kept
  len:=by show (qt nt ix σ).length=N.length;rw [sc.len];unfold qt;simp }
 have st4:tn 0 h1:=T.keep _ _ _ st3' fun b hb o e=>kept b o e
 have stat:∀{H':Hp},(∀b∈fp,H' b=none)→∀b∈fp,FpOk (zo X N scope cl s3 H3 fp C) [] H' b:=fun hn b hb=>⟨hn b hb,fpC b hb,ok.exfs b hb,.inl hb,(fun y c e=>(hf3 b hb).2.2.2.2.1 y c (sc.sub y c e)),fun p hp=>absurd (show p∈([]:List (Addr × Obj)) from hp) (by simp)⟩
 have loop:codeAny (model X.prog X.w) X.A (.compLoop (.ListComp elt [⟨tg,iter,[],0⟩,⟨tg2,iter2,[],0⟩] scope pos) 0 (.ref it) (.ref D) (compEnvC scope cl C X.env)) (RR (.ref D) C) { s3 with heap:=h1,toks:=s3.toks+0 }:=by
  refine JZ (fun n s'=>∃i ys σ' H',Inv (zo X N scope cl s3 H3 fp C) [] σ' H' s'∧tn i s'.heap∧(∀b∈fp,H' b=none)∧W i n ys σ' H') (fun x=>hs2 x C) ?_ m0 ⟨0,[],_,H3,I4,st4,fun b hb=>(hf3 b hb).1,w0⟩
  rintro n s5 ⟨i,ys,σ5,H5,I5,st5,fr5,w5⟩
  rcases turn i n ys σ5 H5 w5 with ⟨stop,qn⟩ | ⟨go,step⟩
  ·refine thn (T.done (zo X N scope cl s3 H3 fp C) rfl rfl rfl rfl i [] s5 σ5 H5 _ I5 (stat fr5) st5 stop) fun r s6 zz=>?_
   obtain ⟨hr,I6⟩:=zz
   subst hr
   obtain ⟨m6,n6,_⟩:=I6.loc
   refine hRR D C s6 H5 m6 (I3.call' I6.os I6.base I6.hok I6.bare fun b hb=>?_) n6 (Nat.ne_of_gt (by have:=I3.lt;rw [hC] at this;exact this)) I6.free (by have:=I3.sz;rw [hC] at this;exact this) (fun y c e z=>?_) (fun p hp z=>?_) qn
   ·obtain ⟨_,h1,_,h4,h5,h6⟩:=hf3 b hb
    exact ⟨h4,h1,h5,h6⟩
   ·obtain ⟨v,q⟩:=I3.cell y c e
    have:=q.lt
    rw [hC,z] at this
    exact Nat.lt_irrefl _ this
   ·have:=Heap.lt_size (I3.pin p hp).1
    rw [hC,z] at this
    exact Nat.lt_irrefl _ this
  ·refine thn (T.item (zo X N scope cl s3 H3 fp C) rfl rfl rfl rfl i [] s5 σ5 H5 _ I5 (stat fr5) st5 go) fun r s6 zz=>?_
   obtain ⟨u,hr,h6⟩:=zz
   subst hr
   refine thn h6 fun _ s7 zz=>?_
   obtain ⟨v,H7,I7,r7,y7,st7,fr7⟩:=zz
   have I7':=I7.pinned (stat fr7) (T.obj _ _ st7)
   refine thn (hg s3 H3 fp C _ s7 σ5 H7 v u _ I7' r7 (step v H7 y7)) fun _ s8 zz=>?_
   obtain ⟨σ8,H8,I8,q8⟩:=zz
   refine thn (hi2 s3 H3 fp C _ s8 σ8 H8 _ I8 q8) fun xv s9 h9=>thn h9 fun itv2 s10 h10=>?_
   obtain ⟨it2,fp2,tn2,J2,H10,e10,I10,T2,st10,f10,W2,⟨m20,w20⟩,turn2⟩:=h10
   subst e10
   have stat2:∀{H':Hp},(∀b∈fp2,H' b=none)→∀b∈fp2,FpOk (zo X N scope cl s3 H3 fp C) ([]++ZH fp s7.heap) H' b:=fun hn b hb=>⟨hn b hb,(f10 b hb).2⟩
   have loop2:codeAny (model X.prog X.w) X.A (.compLoop (.ListComp elt [⟨tg,iter,[],0⟩,⟨tg2,iter2,[],0⟩] scope pos) 1 (.ref it2) (.ref D) (compEnvC scope cl C X.env)) (fun r s₅=>r=.ok .next∧∃m,m < n∧∃i ys σ' H',Inv (zo X N scope cl s3 H3 fp C) [] σ' H' s₅∧tn i s₅.heap∧(∀b∈fp,H' b=none)∧W i m ys σ' H') s10:=by
    refine z0E (fun n2 s'=>∃i2 ys2 σ' H',Inv (zo X N scope cl s3 H3 fp C) ([]++ZH fp s7.heap) σ' H' s'∧tn2 i2 s'.heap∧(∀b∈fp2,H' b=none)∧W2 i2 n2 ys2 σ' H') ?_ m20 ⟨0,ys,σ8,H10,I10,st10,fun b hb=>(f10 b hb).1,w20⟩
    rintro n2 s11 ⟨i2,ys2,σ11,H11,I11,st11,fr11,w11⟩
    rcases turn2 i2 n2 ys2 σ11 H11 w11 with ⟨stop2,m',hm',wn⟩ | ⟨go2,step2⟩
    ·refine thn (T2.done (zo X N scope cl s3 H3 fp C) rfl rfl rfl rfl i2 _ s11 σ11 H11 _ I11 (stat2 fr11) st11 stop2) fun r s12 zz=>?_
     obtain ⟨hr2,I12⟩:=zz
     subst hr2
     refine ⟨rfl,m',hm',i+1,ys2,σ11,H11,I12.unpinned (pins:=[]),T.keep _ _ _ st7 fun b hb o e=>(I12.pin (b,o) (kJ _ (kJ _ (ql hb e)))).1,fun b hb=>?_,wn⟩
     obtain ⟨o,e,d⟩:=T.obj _ _ st7 b hb
     exact (I12.pin (b,o) (kJ _ (kJ _ (ql hb e)))).2.1
    ·refine thn (T2.item (zo X N scope cl s3 H3 fp C) rfl rfl rfl rfl i2 _ s11 σ11 H11 _ I11 (stat2 fr11) st11 go2) fun r s12 zz=>?_
     obtain ⟨u2,hr2,h12⟩:=zz
     subst hr2
     refine thn h12 fun _ s13 zz=>?_
     obtain ⟨v2,H13,I13,r13,y13,st13,fr13⟩:=zz
     have I13':=I13.pinned (stat2 fr13) (T2.obj _ _ st13)
     refine thn (hg2 s3 H3 fp C _ s13 σ11 H13 v2 u2 _ I13' r13 (step2 v2 H13 y13)) fun _ s14 zz=>?_
     obtain ⟨σ14,H14,I14,q14⟩:=zz
     refine thn (he s3 H3 fp C _ s14 σ14 H14 _ I14 q14) fun yv s15 zz=>?_
     obtain ⟨y,H15,I15,r15,q15⟩:=zz
     obtain ⟨hl9,hz9,m',hm',w9⟩:=q15
     obtain ⟨z9,its,k9,rv9,ll9,e9⟩:=I15.lstM hl9
     refine call_meets F.slot_list_append ⟨_,e9,rfl⟩ F.entry_list_append (F.args_list_append_2 _ _) (PySem.list_append D its.toArray k9 yv (by rw [kz];lia)) ⟨e9,?_⟩
     have I16:=I15.lset (t':=s15.toks) (its':=its++[yv]) (f:=(·.push yv)) hl9 e9 (by simp) (rv9.append (.cons r15 .nil)) (by rw [ki,kC];lia)
     refine ⟨m',hm',i2+1,ys2++[y],σ14,_,I16.unpinned,T2.keep _ _ _ st13 fun b hb o e=>(I16.pin (b,o) (kJ _ (kJ _ (ql hb e)))).1,fun b hb=>?_,w9⟩
     obtain ⟨o,e,d⟩:=T2.obj _ _ st13 b hb
     exact (I16.pin (b,o) (kJ _ (kJ _ (ql hb e)))).2.1
   exact JY loop2 (T2.self _ 0 _ _ _ st10 loop2)
 exact codeAny_compStart_list loop (T.self _ 0 _ _ _ st4 loop)
end
end L2
namespace L2
open PySem PySem.Spec PyProof.Rows
section
variable {X:Cx}
def rNeI (K:ko):R2:=fun x y H Q=>∃(p q:Addr) (ns:List Int),x=.ref p∧y=.ref q∧SqL K H p (ns.map V.int)∧SqL K H q (ns.map V.int)∧Q (.bl false) H
theorem Jx:∀{ns:List Int} {us vs:List Value},Vals (ns.map V.int) us→Vals (ns.map V.int) vs→us.length=vs.length∧∀j (h1:j < us.length) (h2:j < vs.length),∃i t t',us[j]=.int i t∧vs[j]=.int i t'
 | [],_,_,.nil,.nil=>⟨rfl,fun j h1=>absurd h1 (by simp)⟩
 | n :: ns,_,_,.cons a r,.cons b r'=>by
  obtain ⟨e,h⟩:=Jx r r'
  refine ⟨by rw [kL,kL,e],fun j h1 h2=>?_⟩
  cases j with
  | zero=>
   obtain ⟨t,rfl⟩:=a
   obtain ⟨t',rfl⟩:=b
   exact ⟨n,t,t',rfl,rfl⟩
  | succ j=>exact h j (by simpa using h1) (by simpa using h2)
theorem z71 (hu:X.A.units < cLine):OpR X (compareOp .NotEq) (rNeI X.K):=by
 intro pins s σ H x y v u Q I rx ry h
 obtain ⟨p,q,ns,rfl,rfl,h1,h2,hq⟩:=h
 cases rx
 cases ry
 obtain ⟨its,r,pl,_⟩:=I.list h1
 obtain ⟨its2,r2,pl2,_⟩:=I.list h2
 obtain ⟨el,eq⟩:=Jx r r2
 refine SeqAt.RcNeAt.lists (e:=fun _=>true) pl.isList pl2.isList (by simpa using el) hu (fun j g1 g2=>?_) X.prog X.w X.xe _ ⟨.bl _,H,I,rfl,?_⟩
 ·obtain ⟨i,t,t',e1,e2⟩:=eq j (by simpa using g1) (by simpa using g2)
  have:=SeqAt.EqAt.int_int (A:=X.A.in1) (s:=s) i t i t'
  rw [beq_self_eq_true] at this
  simpa [e1,e2] using this
 ·rw [List.all_eq_true.mpr fun _ _=>rfl]
  exact hq
end
end L2
namespace L2
open PySem PySem.Spec PyProof.Rows
abbrev jl (H:Hp):List Addr→List (List V)→Prop:=Paired fun a xs=>H a=some (.tup xs)
theorem jl.get {H:Hp}:∀{as:List Addr} {ts:List (List V)} {i:Nat} {a:Addr},jl H as ts→as[i]?=some a→∃xs,ts[i]?=some xs∧H a=some (.tup xs)
 | _,_,_,_,.nil,e=>by simp at e
 | _,_,0,_,.cons h _,e=>by
  simp at e
  subst e
  exact ⟨_,rfl,h⟩
 | _,_,i+1,_,.cons _ t,e=>by
  obtain ⟨xs,h1,h2⟩:=jl.get (i:=i) t (by simpa using e)
  exact ⟨xs,by simpa using h1,h2⟩
section
variable {X:Cx}
end
end L2
namespace L2
open PySem PySem.Spec PyProof.Rows
theorem ji {α β:Type} {R:α→β→Prop}:∀{as:List α} {bs:List β},as.length=bs.length→(∀(j:Nat) a b,as[j]?=some a→bs[j]?=some b→R a b)→Paired R as bs
 | [],[],_,_=>.nil
 | [],_ :: _,h,_=>by cases h
 | _ :: _,[],h,_=>by cases h
 | a :: as,b :: bs,h,g=>.cons (g 0 a b rfl rfl) (ji (by simpa using h) fun j x y hx hy=>g (j+1) x y (by simpa using hx) (by simpa using hy))
section
variable {X:Cx}
end
end L2
namespace L2
open PySem PySem.Spec PyProof.Rows
theorem JB {α:Type} {xs:List α} {i:Nat} (hi:i < xs.length):(xs[i] :: xs.eraseIdx i).Perm xs:=by
 rw [List.eraseIdx_eq_take_drop_succ]
 refine List.perm_middle.symm.trans (.of_eq ?_)
 rw [←List.drop_eq_getElem_cons hi,List.take_append_drop]
section
variable {M:Model} {A:Around} {E:Value→Shared→Prop}
theorem z5r {s:Shared} {src:Source} {n:Nat} {Q:Nat→Shared→Prop} (hn:n≠0) (h:∀i d,i < n→Q i { s with drawn:=d }):wpAny M A (choose src n) Q E s:=
 fun _ _ _=>⟨hn,h _ _ (Nat.mod_lt _ (Nat.pos_of_ne_zero hn))⟩
theorem z3X {α:Type}:∀(n:Nat) (xs:List α) (s:Shared) {Q:List α→Shared→Prop},xs.length=n→(∀ys d,ys.Perm xs→Q ys { s with drawn:=d })→wpAny M A (drawOrder n xs) Q E s:=by
 intro n
 induction n with
 | zero=>
  intro xs s Q hn h
  have:xs=[]:=List.length_eq_zero_iff.mp hn
  subst this
  exact wpAny_pure (h [] s.drawn .nil)
 | succ n ih=>
  intro xs s Q hn h
  cases xs with
  | nil=>cases hn
  | cons y ys=>
   unfold drawOrder
   refine wpAny_bind (z5r (by simp) fun i d hi=>?_)
   have e:(y :: ys)[i]?=some (y :: ys)[i]:=kH hi
   rw [e]
   refine wpAny_bind (ih _ _ (by rw [List.length_eraseIdx,kr hi];lia) fun zs d hz=>?_)
   exact wpAny_pure (h _ _ ((hz.cons _).trans (JB hi)))
end
theorem z5V (t:SetTable) (es:Array (Int × Value)) (h:Int) (x:Value):(layNew t es h x).2.1.led=t.led:=by
 unfold layNew
 split
 ·rename_i slot dm _
  show (SetTable.orStandIn (t.put slot).1 _).led=t.led
  have e:(t.put slot).1.led=t.led:=rfl
  unfold SetTable.orStandIn
  split
  ·exact e
  ·exact e
 ·rfl
theorem z2D (t:SetTable) (es:Array (Int × Value)) (n:Nat):(relayAll t es n).2.1.led=t.led∧((relayAll t es n).2.1.plain=true→t.plain=true):=by
 unfold relayAll
 split
 ·rename_i t' order e
  dsimp only
  have e1:t'.led=t.led∧t'.plain=t.plain:=by
   unfold SetTable.relaid SetTable.laid at e
   obtain ⟨ow,_,e⟩:=Option.bind_eq_some_iff.mp e
   cases e
   exact ⟨rfl,rfl⟩
  split
  ·exact ⟨e1.1,fun h=>e1.2▸h⟩
  ·exact ⟨rfl,fun h=>by cases h⟩
 ·exact ⟨rfl,fun h=>by cases h⟩
noncomputable def tob (w:World):Bool:=w.params.followText "set-order"
section
variable {prog:Program} {w:World} {A:Around} {E:Value→Shared→Prop}
theorem z2E {h:Heap} {a:Addr} {es es':Array (Int × Value)} {ep:Nat} {t t':SetTable} (ho:h.get? a=some { cls:=.type "set",dict:=none,data:=.set es ep t,slots:=#[] }):
  (h.update a (Obj.putSet es' t')).get? a=some { cls:=.type "set",dict:=none,data:=.set es' (ep+1) t',slots:=#[] }:=by
 have:=Heap.get?_update_self (Obj.putSet es' t') ho (by rw [putSet_of es' t' rfl];rfl)
 rw [putSet_of es' t' rfl] at this
 exact this
end
end L2
namespace L2
open PySem PySem.Spec PyProof.Rows
def Inc (xs:Array Nat):Prop:=∀i j a b:Nat,i < j→xs[i]?=some a→xs[j]?=some b→a < b
theorem z4W {xs:Array Nat} {j:Nat} (hI:Inc xs):∀(fuel lo hi:Nat),hi - lo≤fuel→lo≤hi→hi≤xs.size→(∀i a,i < lo→xs[i]?=some a→a < j)→(∀i a,hi≤i→xs[i]?=some a→j≤a)→
  (SetTable.below.go xs j fuel lo hi)≤xs.size∧(∀i a,i < SetTable.below.go xs j fuel lo hi→xs[i]?=some a→a < j)∧(∀i a,SetTable.below.go xs j fuel lo hi≤i→xs[i]?=some a→j≤a):=by
 intro fuel
 induction fuel with
 | zero=>
  intro lo hi h1 h2 h3 h4 h5
  rw [SetTable.below.go.eq_1]
  have:lo=hi:=by lia
  subst this
  exact ⟨h3,h4,h5⟩
 | succ n ih=>
  intro lo hi h1 h2 h3 h4 h5
  rw [SetTable.below.go.eq_2]
  split
  ·rename_i hlt
   dsimp only
   have hm:(lo+hi) / 2 < xs.size:=by lia
   have em:xs[(lo+hi) / 2]?=some xs[(lo+hi) / 2]:=Array.getElem?_eq_getElem hm
   have ed:xs.getD ((lo+hi) / 2) j=xs[(lo+hi) / 2]:=by rw [Array.getD_eq_getD_getElem?,em];rfl
   rw [ed]
   split
   ·rename_i hl
    refine ih _ _ (by lia) (by lia) h3 (fun i a hi' e=>?_) h5
    by_cases z:i=(lo+hi) / 2
    ·subst z
     rw [em] at e
     cases e
     exact hl
    ·exact Nat.lt_trans (hI _ _ _ _ (by lia) e em) hl
   ·rename_i hl
    refine ih _ _ (by lia) (by lia) (by lia) h4 (fun i a hi' e=>?_)
    by_cases z:i=(lo+hi) / 2
    ·subst z
     rw [em] at e
     cases e
     lia
    ·have:=hI _ _ _ _ (by lia) em e
     lia
  ·have:lo=hi:=by lia
   subst this
   exact ⟨h3,h4,h5⟩
theorem Jj {xs:Array Nat} (hI:Inc xs) (j:Nat):SetTable.below xs j≤xs.size∧(∀i a,i < SetTable.below xs j→xs[i]?=some a→a < j)∧(∀i a,SetTable.below xs j≤i→xs[i]?=some a→j≤a):=
 z4W hI _ _ _ (by lia) (Nat.zero_le _) (kc _) (fun i a h=>absurd h (Nat.not_lt_zero _)) (fun i a h e=>by rw [Array.getElem?_eq_none h] at e;cases e)
theorem z27 {xs:Array Nat} (hI:Inc xs):SetTable.below xs 0=0:=by
 obtain ⟨h1,h2,h3⟩:=Jj hI 0
 refine Nat.eq_zero_of_not_pos fun h=>?_
 have hs:0 < xs.size:=kI h h1
 exact Nat.not_lt_zero _ (h2 0 _ h (Array.getElem?_eq_getElem hs))
theorem z28 {xs:Array Nat} (hI:Inc xs) {k a:Nat} (e:xs[k]?=some a):SetTable.below xs (a+1)=k+1:=by
 obtain ⟨h1,h2,h3⟩:=Jj hI (a+1)
 have hk:k < SetTable.below xs (a+1):=Nat.lt_of_not_le fun h=>by have:=h3 k a h e;lia
 refine Nat.le_antisymm (Nat.le_of_not_lt fun h=>?_) hk
 have hs:k+1 < xs.size:=kI h h1
 have e2:xs[k+1]?=some xs[k+1]:=Array.getElem?_eq_getElem hs
 have:=h2 _ _ h e2
 have:=hI _ _ _ _ (kX k) e e2
 lia
theorem z1R {xs:Array Nat} (hI:Inc xs) {j:Nat} (hn:(xs[SetTable.below xs j]? == some j)=false):Inc (SetTable.insertAt xs (SetTable.below xs j) j):=by
 obtain ⟨h1,h2,h3⟩:=Jj hI j
 generalize SetTable.below xs j=p at h1 h2 h3 hn
 have at':∀i,(SetTable.insertAt xs p j)[i]?=if i < p then xs[i]? else if i=p then some j else xs[i - 1]?:=by
  intro i
  rw [←Array.getElem?_toList,SetTable.toList_insertAt]
  have lt:(List.take p xs.toList).length=p:=by simp [h1]
  split
  ·rename_i h
   rw [yc (by rw [lt];exact h),List.getElem?_take_of_lt h,Array.getElem?_toList]
  ·rename_i h
   rw [yd (by rw [lt];lia),lt]
   split
   ·rename_i h'
    subst h'
    simp
   ·rename_i h'
    obtain ⟨q,rfl⟩:∃q,i=p+(q+1):=⟨i - p - 1,by lia⟩
    rw [Nat.add_sub_cancel_left,List.getElem?_cons_succ,List.getElem?_drop,Array.getElem?_toList]
    rfl
 have strict:∀i a,p≤i→xs[i]?=some a→j < a:=fun i a hi e=>by
  have h:=h3 i a hi e
  refine Nat.lt_of_le_of_ne h fun z=>?_
  subst z
  by_cases hp:p=i
  ·subst hp
   rw [e] at hn
   simp at hn
  ·have hs:p < xs.size:=by
    have:=(Array.getElem?_eq_some_iff.mp e).1
    lia
   have ep:xs[p]?=some xs[p]:=Array.getElem?_eq_getElem hs
   have:=h3 p _ (kc _) ep
   have:=hI _ _ _ _ (by lia) ep e
   lia
 intro i k a b hik ea eb
 rw [at'] at ea eb
 split at ea
 ·split at eb
  ·exact hI _ _ _ _ hik ea eb
  ·split at eb
   ·cases eb
    exact h2 _ _ (by assumption) ea
   ·exact hI _ _ _ _ (by lia) ea eb
 ·split at ea
  ·cases ea
   rw [kq (by lia),kq (by lia)] at eb
   exact strict _ _ (by lia) eb
  ·rw [kq (by lia),kq (by lia)] at eb
   exact hI _ _ _ _ (by lia) ea eb
theorem z3e (n:Nat):Inc (Array.range n):=fun i j a b hij ea eb=>by
 rw [Array.getElem?_range] at ea eb
 split at ea
 ·split at eb
  ·cases ea
   cases eb
   exact hij
  ·cases eb
 ·cases ea
theorem z5Z:Inc #[]:=fun i j a b _ ea _=>by simp at ea
theorem z7d {l:List Nat} (h:l.Pairwise (· < ·)):Inc l.toArray:=fun i j a b hij ea eb=>by
 rw [List.getElem?_toArray] at ea eb
 obtain ⟨hi,rfl⟩:=ke.mp ea
 obtain ⟨hj,rfl⟩:=ke.mp eb
 exact List.pairwise_iff_getElem.mp h _ _ hi hj hij
structure Tab (t:SetTable):Prop where
 inc:Inc t.place
 dum:t.dummies=#[]
theorem z42 {t:SetTable} (T:Tab t) {j:Nat} (h:t.slot j=.empty):(t.place[SetTable.below t.place j]? == some j)=false:=by
 unfold SetTable.slot at h
 dsimp only at h
 split at h
 ·cases h
 ·rename_i hn
  exact Bool.not_eq_true _▸hn
theorem z5x {t:SetTable} (T:Tab t) {j:Nat}:t.slot j≠.dummy:=by
 unfold SetTable.slot
 dsimp only
 split
 ·exact nofun
 ·rw [T.dum]
  rw [kq (by unfold SetTable.has;simp)]
  exact nofun
theorem z6u (t:SetTable) (p:SetTable.Probe):(t.advance p).dummy=p.dummy:=by
 unfold SetTable.advance
 split <;> rfl
theorem z47 {t:SetTable} (T:Tab t) {f:Nat→Int} {h:Int}:∀(fuel:Nat) (p:SetTable.Probe) {j:Nat} {d:Option Nat},p.dummy=none→SetTable.probe.go t f h fuel p=some (.empty j d)→d=none∧t.slot j=.empty:=by
 intro fuel
 induction fuel with
 | zero=>intro p j d hp e;rw [SetTable.probe.go.eq_1] at e;cases e
 | succ n ih=>
  intro p j d hp e
  rw [SetTable.probe.go.eq_2] at e
  split at e
  ·rename_i hs
   cases e
   exact ⟨hp,hs⟩
  ·rename_i hs
   exact absurd hs (z5x T)
  ·split at e
   ·cases e
   ·exact ih _ ((z6u t p).trans hp) e
theorem z3i {t:SetTable} (T:Tab t) {h:Int} {j:Nat} {b:Bool} (e:t.freeSlot h=some (j,b)):(t.place[SetTable.below t.place j]? == some j)=false:=by
 unfold SetTable.freeSlot at e
 split at e
 ·rename_i j' d hq
  rw [SetTable.probe.eq_1] at hq
  obtain ⟨rfl,hs⟩:=z47 T _ _ rfl hq
  cases e
  exact z42 T hs
 ·cases e
theorem Za (t:SetTable) (n:Nat):Tab (t.standIn n):=⟨z3e n,rfl⟩
theorem z5U {t:SetTable} (T:Tab t) (es:Array (Int × Value)) (h:Int) (x:Value):Tab (layNew t es h x).2.1:=by
 unfold layNew
 split
 ·rename_i slot dm e
  have hn:=z3i T e
  show Tab (SetTable.orStandIn (t.put slot).1 _)
  unfold SetTable.orStandIn
  split
  ·refine ⟨z1R T.inc hn,?_⟩
   show (if SetTable.has t.dummies slot=true then _ else t.dummies)=#[]
   rw [T.dum,kq (by unfold SetTable.has;simp)]
  ·exact Za _ _
 ·exact Za _ _
theorem z4s {f:Nat→Option Nat}:∀{l:List Nat},l.Pairwise (· < ·)→((l.filterMap fun j=>(f j).map fun x=>(j,x)).map (·.1)).Pairwise (· < ·):=by
 intro l h
 rw [List.map_filterMap]
 refine h.filterMap _ fun a a' haa b hb b' hb'=>?_
 cases e:f a with
 | none=>rw [e] at hb;cases hb
 | some y=>
  cases e':f a' with
  | none=>rw [e'] at hb';cases hb'
  | some y'=>
   rw [e] at hb
   rw [e'] at hb'
   cases hb
   cases hb'
   exact haa
theorem z2C (t:SetTable) (es:Array (Int × Value)) (n:Nat):Tab (relayAll t es n).2.1:=by
 unfold relayAll
 split
 ·rename_i t' order e
  dsimp only
  have T':Tab t':=by
   unfold SetTable.relaid SetTable.laid at e
   obtain ⟨ow,_,e⟩:=Option.bind_eq_some_iff.mp e
   cases e
   exact ⟨z7d (z4s List.pairwise_lt_range),rfl⟩
  split
  ·exact T'
  ·exact Za _ _
 ·exact Za _ _
theorem z2k (a b:Nat) (c:Bool):Tab (SetTable.fresh a b c):=⟨z5Z,rfl⟩
end L2
namespace L2
open PySem PySem.Spec PyProof.Rows
section
variable {prog:Program} {w:World} {A:Around} {E:Value→Shared→Prop}
noncomputable def setO (w:World):Obj:={ cls:=.type "set",dict:=none,data:=.set #[] 0 (.fresh 0 0 (!tob w)) }
end
end L2
namespace L2
open PySem PySem.Spec PyProof.Rows
theorem Z1:Slot "set_iterator" "__next__" "set_iterator.__next__":=
 .of (owner:="set_iterator") (n:="__next__") (by rw [typeLookup_type,builtinLookup_eq_fast];kernel_rfl) (by trivial) (by trivial) (by trivial) (by first | exact .inl (by trivial) | exact .inr (by trivial)) (by rw [isSubtype_type];kernel_rfl)
theorem z1h:entryFor table "set_iterator.__next__"=some Builtin.«set_iterator.__next__»:=entryFor_of_tree (by kernel_rfl)
theorem z3P (a:Value):argsOk "set_iterator.__next__" ⟨[a],[]⟩:=by unfold argsOk;kernel_rfl
theorem z3u:entryFor table "set.__iter__"=some Builtin.«frozenset.__iter__»:=entryFor_alias (id':="frozenset.__iter__") (by kernel_rfl) rfl (by trivial) (by kernel_rfl)
noncomputable def itO (f0:Value) (i:Nat) (S:Addr) (n ep:Nat):Obj:={ cls:=.type "set_iterator",dict:=none,data:=.fields #[f0,.int i 0,.ref S,.int n 0,.int ep 0],slots:=#[] }
noncomputable def setX (es:Array (Int × Value)) (ep:Nat) (t:SetTable):Obj:={ cls:=.type "set",dict:=none,data:=.set es ep t,slots:=#[] }
section
variable {prog:Program} {w:World} {A:Around} {E:Value→Shared→Prop} {s:Shared}
theorem z1u {α:Type} {Q:α→Shared→Prop} (hh:A.handled=none) (h:∀a h',(∀b o,s.heap.get? b=some o→h'.get? b=some o)→Shared.TypeIs { s with heap:=h' } (.ref a) "StopIteration"→E (.ref a) { s with heap:=h' }):
  wpAny (model prog w) A (newExc (.type "StopIteration") [] >>= fun e=>(raiseNew e:Sem α)) Q E s:=by
 refine wpAny_bind ?_
 simp only [newExc,newTuple]
 refine wpAny_bind (wpAny_newObj_type ?_ (by size_fits))
 refine wpAny_bind (m:=firstArgMember _ _) (wpAny_of_eq (a:=Value.none) (by first | rfl | (simp only [firstArgMember];rfl)) ?_)
 refine wpAny_newObj_type ?_ (by size_fits)
 simp only [raiseNew]
 refine wpAny_bind (wpAny_handled ?_)
 rw [hh]
 exact wpAny_bind (wpAny_pure (wpAny_throw (h _ _ (fun b o e=>Heap.get?_push_of_some _ (Heap.get?_push_of_some _ e)) ⟨_,Heap.get?_push_size _ rfl,rfl⟩)))
theorem JG {S:Addr} {es:Array (Int × Value)} {t:SetTable} {ep slot i:Nat} {Q:Option (Value × Nat)→Shared→Prop} (hS:s.heap.get? S=some (setX es ep t)) (hf:t.fits es.size=true) (hb:tob w=true)
  (h:Q (((pickOrder (w.params.setOrder S ep) es)[i]?).map fun e=>(e.2,slot)) s):wpAny (model prog w) A (setNext S slot i ep) Q E s:=by
 have eb:w.params.followText "set-order"=true:=hb
 unfold setNext
 refine wpAny_bind (wpAny_setState_of hS rfl hf ?_)
 unfold setsByText
 refine wpAny_bind (wpAny_bind (wpAny_askSetting (wpAny_pure ?_)))
 show wpAny _ _ (if w.params.followText "set-order"=true then _ else _) _ _ _
 rw [kr eb,kq (by simp)]
 refine wpAny_bind ?_
 unfold setWalk
 refine wpAny_bind (wpAny_setState_of hS rfl hf ?_)
 unfold setsByText
 refine wpAny_bind (wpAny_bind (wpAny_askSetting (wpAny_pure ?_)))
 show wpAny _ _ (if w.params.followText "set-order"=true then _ else _) _ _ _
 rw [kr eb]
 exact wpAny_bind (wpAny_askSetting (wpAny_pure (wpAny_pure h)))
end
end L2
namespace L2
open PySem PySem.Spec PyProof.Rows
theorem z2z:Slot "set_iterator" "__iter__" "set_iterator.__iter__":=
 .of (owner:="set_iterator") (n:="__iter__") (by rw [typeLookup_type,builtinLookup_eq_fast];kernel_rfl) (by trivial) (by trivial) (by trivial) (by first | exact .inl (by trivial) | exact .inr (by trivial)) (by rw [isSubtype_type];kernel_rfl)
theorem z4O:entryFor table "set_iterator.__iter__"=some Builtin.«dict_keyiterator.__iter__»:=entryFor_alias (id':="dict_keyiterator.__iter__") (by kernel_rfl) rfl (by trivial) (by kernel_rfl)
theorem z6s (a:Value):argsOk "set_iterator.__iter__" ⟨[a],[]⟩:=by unfold argsOk;kernel_rfl
theorem z5J {α:Type} (next:Nat→Nat):∀(fuel k:Nat) (left:List α) (out:Array α),left.length=fuel→(pickOrder.go next fuel k left out).toList.Perm (out.toList++left):=by
 intro fuel
 induction fuel with
 | zero=>
  intro k left out h
  have:left=[]:=List.length_eq_zero_iff.mp h
  subst this
  unfold pickOrder.go
  rw [kQ]
 | succ fuel ih=>
  intro k left out h
  unfold pickOrder.go
  have hi:next k % left.length < left.length:=Nat.mod_lt _ (by lia)
  rw [kH hi]
  dsimp only
  refine (ih _ _ _ (by rw [List.length_eraseIdx,kr hi];lia)).trans ?_
  rw [Array.toList_push,kR]
  exact (JB hi).append_left _
theorem z1z {α:Type} (next:Nat→Nat) (xs:Array α):(pickOrder next xs).toList.Perm xs.toList:=by
 unfold pickOrder
 have:=z5J next xs.size 0 xs.toList #[] (by simp)
 simpa using this
noncomputable def atPs (es:Array (Int × Value)) (ps:List Nat):List Value:=ps.map fun p=>(es[p]?.map (·.2)).getD .none
theorem z4X (es:Array (Int × Value)):atPs es (List.range es.size)=es.toList.map (·.2):=by
 unfold atPs
 refine List.ext_getElem (by simp) fun i h1 h2=>?_
 have hi:i < es.size:=by simpa using h1
 simp [hi]
section
variable {prog:Program} {w:World} {A:Around} {E:Value→Shared→Prop} {s:Shared}
end
end L2
namespace L2
open PySem PySem.Spec PyProof.Rows
def IxS (P:Program) (w:World) (h:Heap) (a:Addr) (ks:List Int):Prop:=
 ∃(es:Array (Int × Value)) (ep:Nat) (t:SetTable),h.get? a=some { cls:=.type "set",dict:=none,data:=.set es ep t,slots:=#[] }∧ElemsOf (PySem.intKind P w) es.toList∧
  (es.toList.map fun e=>numOf e.2).Perm ks∧ks.length < scanBound∧t.fits es.size=true∧Tab t∧t.led= !tob w
noncomputable def addI (ks:List Int) (z:Int):List Int:=if z∈ks then ks else ks++[z]
theorem z50 (ks:List Int) (z:Int):(addI ks z).length≤ks.length+1:=by
 unfold addI
 split
 ·lia
 ·simp
theorem z39 {P:Program} {w:World} {k:Int} {v:Value}:(PySem.intKind P w).is k v=true→∃t,v=.int k t:=fun h=>Value.isInt_shape h
theorem z3d {P:Program} {w:World} {k:Int} {t:Tok}:(PySem.intKind P w).is k (.int k t)=true:=by
 show Value.isInt k (.int k t)=true
 simp [Value.isInt]
section
variable {prog:Program} {w:World} {A:Around} {E:Value→Shared→Prop}
theorem IxS.kept {h h':Heap} {a:Addr} {ks:List Int} (T:IxS prog w h a ks) (k:∀o,h.get? a=some o→h'.get? a=some o):IxS prog w h' a ks:=
 let ⟨es,ep,t,ho,r⟩:=T;⟨es,ep,t,k _ ho,r⟩
theorem z0c {g:Bool→Sem Unit} (hg:∀(b:Bool) (s:Shared) (Q:Unit→Shared→Prop),Q () s→wpAny (model prog w) A (g b) Q E s) {s:Shared} {a:Addr} {es:Array (Int × Value)} {ep:Nat} {t:SetTable} (ho:s.heap.get? a=some { cls:=.type "set",dict:=none,data:=.set es ep t,slots:=#[] })
  {es1:Array (Int × Value)} {t2:SetTable} {ks:List Int} (hel:ElemsOf (PySem.intKind prog w) es1.toList) (hp:(es1.toList.map fun e=>numOf e.2).Perm ks) (hb:ks.length < scanBound) (hf:t2.fits es1.size=true) (hT:Tab t2) (hled:t2.led= !tob w) {dm:Bool} {R:Option Bool→Shared→Prop}
  (h:∀h',Heap.SameBut a s.heap h'→IxS prog w h' a ks→R (some true) { s with heap:=h' }):
  wpAny (model prog w) A (storeSet a es1 t2 >>= fun _=>if (!dm&&t2.tooFull)=true then (g (relayAll t2 es1 (SetTable.grown es1.size)).2.2 >>= fun _=>storeSet a (relayAll t2 es1 (SetTable.grown es1.size)).1 (relayAll t2 es1 (SetTable.grown es1.size)).2.1 >>= fun _=>pure (some true)) else pure (some true)) R E s:=by
 have sz:es1.size < scanBound:=by
  have:=hp.length_eq
  rw [kh,Array.length_toList] at this
  lia
 refine wpAny_bind (wpAny_storeSet_of ho rfl ?_ (fits_of_scanBound sz))
 have ho1:=z2E (es':=es1) (t':=t2) ho
 have sb:=Heap.SameBut.update s.heap a (Obj.putSet es1 t2)
 split
 ·have p2:=relayAll_perm t2 es1 (SetTable.grown es1.size)
  have f2:=relayAll_fits t2 es1 (SetTable.grown es1.size)
  obtain ⟨l2,_⟩:=z2D t2 es1 (SetTable.grown es1.size)
  have T2:=z2C t2 es1 (SetTable.grown es1.size)
  generalize relayAll t2 es1 (SetTable.grown es1.size)=Rl at p2 f2 l2 T2 ⊢
  obtain ⟨es2,t3,gave⟩:=Rl
  dsimp only at p2 f2 l2 T2 ⊢
  refine wpAny_bind (hg _ _ _ ?_)
  have sz2:es2.size < scanBound:=by
   have:=p2.length_eq
   rw [Array.length_toList,Array.length_toList] at this
   lia
  refine wpAny_bind (wpAny_storeSet_of ho1 rfl ?_ (fits_of_scanBound sz2))
  exact wpAny_pure (h _ (sb.trans (Heap.SameBut.update _ a _)) ⟨es2,_,t3,z2E ho1,hel.perm p2,(p2.map _).trans hp,hb,f2,T2,l2.trans hled⟩)
 ·exact wpAny_pure (h _ sb ⟨es1,_,t2,ho1,hel,hp,hb,hf,hT,hled⟩)
theorem z4Z {s:Shared} {a:Addr} {ks:List Int} {z:Int} {tk:Tok} {Q:Bool→Shared→Prop} (T:IxS prog w s.heap a ks) (hroom:ks.length+1 < scanBound)
  (h:∀h' b,Heap.SameBut a s.heap h'→IxS prog w h' a (addI ks z)→Q b { s with heap:=h' }):
  wpAny (model prog w) A (setAddHashed a (.int z tk) ((PySem.intKind prog w).hash z)) Q E s:=by
 obtain ⟨es,ep,t,ho,hel,hp,hb,hf,hT,hled⟩:=T
 have lenE:es.size=ks.length:=by
  have:=hp.length_eq
  rw [kh,Array.length_toList] at this
  exact this
 unfold setAddHashed setAddHashedIn
 refine wpAny_holding (wpAny_bind (wpAny_setState_of ho rfl hf ?_))
 dsimp only
 rw [byScan_of (knd:=PySem.intKind prog w) rfl (by lia) hel,kr rfl]
 unfold setAddByScan
 refine wpAny_bind (wpAny_bind (wpAny_rule (wpAny_bind (wpAny_setScan_of (knd:=PySem.intKind prog w) z3d ho rfl hf hel ?_))))
 have memE:(∃e∈es.toList,(PySem.intKind prog w).is z e.2=true)↔z∈ks:=by
  rw [←hp.mem_iff,yb]
  constructor
  ·rintro ⟨e,he,hz⟩
   obtain ⟨t',e2⟩:=z39 hz
   exact ⟨e,he,by rw [e2];rfl⟩
  ·rintro ⟨e,he,hz⟩
   obtain ⟨⟨k,hk,_⟩,_⟩:=hel e he
   obtain ⟨t',e2⟩:=z39 hk
   rw [e2] at hz
   cases (show k=z from hz)
   exact ⟨e,he,hk⟩
 cases hr:List.findIdx? (fun e=>(PySem.intKind prog w).is z e.2) es.toList with
 | some j=>
  dsimp only
  obtain ⟨hj,hpj,_⟩:=List.findIdx?_eq_some_iff_getElem.mp hr
  refine wpAny_pure (wpAny_pure ?_)
  have hz:z∈ks:=memE.mp ⟨_,List.getElem_mem hj,hpj⟩
  have:=h s.heap false (Heap.SameBut.refl a s.heap) (by unfold addI;rw [kr hz];exact ⟨es,ep,t,ho,hel,hp,hb,hf,hT,hled⟩)
  exact this
 | none=>
  dsimp only
  have hz:z∉ks:=fun c=>by
   obtain ⟨e,he,q⟩:=memE.mpr c
   have:=List.findIdx?_eq_none_iff.mp hr e he
   rw [q] at this
   cases this
  have p1:=layNew_perm t es ((PySem.intKind prog w).hash z) (.int z tk)
  have f1:=layNew_fits t es ((PySem.intKind prog w).hash z) (.int z tk)
  have l1:=z5V t es ((PySem.intKind prog w).hash z) (.int z tk)
  have T1:=z5U hT es ((PySem.intKind prog w).hash z) (.int z tk)
  generalize layNew t es ((PySem.intKind prog w).hash z) (.int z tk)=L at p1 f1 l1 T1 ⊢
  obtain ⟨es1,t1,dm,gave⟩:=L
  dsimp only at p1 f1 l1 T1 ⊢
  rw [Array.toList_push] at p1
  have hel1:ElemsOf (PySem.intKind prog w) es1.toList:=(hel.push (k:=z) z3d rfl).perm p1
  have hp1:(es1.toList.map fun e=>numOf e.2).Perm (addI ks z):=by
   unfold addI
   rw [kq hz]
   refine (p1.map _).trans ?_
   rw [kG]
   exact hp.append_right _
  have hb1:(addI ks z).length < scanBound:=by have:=z50 ks z;lia
  have gw:∀(b:Bool) (s₁:Shared) (Q':Unit→Shared→Prop),Q' () s₁→wpAny (model prog w) A (match b with | true=>rule "set.scan.the-table-gave-way" | false=>pure ()) Q' E s₁:=fun b s₁ Q' hq=>by cases b <;> first | exact wpAny_pure hq | exact wpAny_rule hq
  refine wpAny_bind (gw _ _ _ ?_)
  cases ht:t1.plain with
  | true=>
   rw [kr rfl]
   refine wpAny_bind ?_
   rw [hashByValue_scannable 8 (show Value.scannable (.int z tk)=true from rfl)]
   refine wpAny_pure ?_
   rw [kr (show plainKind (.int z tk)=true from rfl)]
   refine z0c gw (t2:=t1) ho hel1 hp1 hb1 f1 T1 (l1.trans hled) fun h' sb T'=>?_
   exact wpAny_pure (h h' true sb T')
  | false=>
   rw [kq ka]
   refine wpAny_bind (wpAny_pure ?_)
   refine z0c gw (t2:=t1) ho hel1 hp1 hb1 f1 T1 (l1.trans hled) fun h' sb T'=>?_
   exact wpAny_pure (h h' true sb T')
end
end L2
namespace L2
open PySem PySem.Spec PyProof.Rows
inductive WayI (w:World) (h:Heap) (S:Addr) (es:Array (Int × Value)) (ep:Nat) (t:SetTable) (i:Nat):Value→Option Value→Value→Prop
 | text:tob w=true→WayI w h S es ep t i (.int (0:Nat) 0) (((pickOrder (w.params.setOrder S ep) es)[i]?).map (·.2)) (.int (0:Nat) 0)
 | drawn (T:Addr) (o:Obj) (n:Nat) (places:List Nat) (v:Value) (p:Nat):h.get? T=some o→o.data=.seq (places.map fun (i:Nat)=>Value.int i 0).toArray n→places[i]?=some p→es[p]?.map (·.2)=some v→WayI w h S es ep t i (.ref T) (some v) (.ref T)
 | drawnEnd (T:Addr) (o:Obj) (n:Nat) (places:List Nat):h.get? T=some o→o.data=.seq (places.map fun (i:Nat)=>Value.int i 0).toArray n→places[i]?=none→WayI w h S es ep t i (.ref T) none (.ref T)
 | led (sl:Nat) (e:Int × Value) (j:Nat):tob w=false→t.led=true→(!t.plain&&decide (es.size > 1))=false→SetTable.below t.place sl=i→es[i]?=some e→t.place[i]?=some j→WayI w h S es ep t i (.int (sl:Nat) 0) (some e.2) (.int ((j+1:Nat):Int) 0)
 | ledEnd (sl:Nat):tob w=false→t.led=true→(!t.plain&&decide (es.size > 1))=false→SetTable.below t.place sl=i→es[i]?=none→WayI w h S es ep t i (.int (sl:Nat) 0) none .none
section
variable {prog:Program} {w:World} {A:Around} {E:Value→Shared→Prop} {s:Shared}
theorem z16 {S:Addr} {es:Array (Int × Value)} {t:SetTable} {ep slot i:Nat} {Q:Option (Value × Nat)→Shared→Prop} (hS:s.heap.get? S=some (setX es ep t)) (hf:t.fits es.size=true) (hb:tob w=false) (hl:t.led=true) (hz:(!t.plain&&decide (es.size > 1))=false)
  (h:Q (match es[SetTable.below t.place slot]?,t.place[SetTable.below t.place slot]? with | some (_,x),some j=>some (x,j+1) | _,_=>none) s):wpAny (model prog w) A (setNext S slot i ep) Q E s:=by
 have eb:¬w.params.followText "set-order"=true:=fun z=>by rw [show w.params.followText "set-order"=false from hb] at z;cases z
 unfold setNext
 refine wpAny_bind (wpAny_setState_of hS rfl hf ?_)
 unfold setsByText
 refine wpAny_bind (wpAny_bind (wpAny_askSetting (wpAny_pure ?_)))
 show wpAny _ _ (if w.params.followText "set-order"=true then _ else _) _ _ _
 rw [kq eb]
 show wpAny _ _ (if (!t.plain&&decide (es.size > 1))=true then _ else _) _ _ _
 rw [kq (by rw [hz];exact ka)]
 refine wpAny_bind ?_
 show wpAny _ _ (if (!t.led&& !es.isEmpty)=true then _ else _) _ _ _
 rw [kq (by rw [hl];exact ka)]
 exact wpAny_pure (wpAny_pure h)
theorem jb {it S:Addr} {i ep:Nat} {es:Array (Int × Value)} {t:SetTable} {f0 f1 v:Value} {Q:Option Value→Shared→Prop} (hit:s.heap.get? it=some (itO f0 i S es.size ep)) (hS:s.heap.get? S=some (setX es ep t)) (hf:t.fits es.size=true)
  {r:Option Value} (way:WayI w s.heap S es ep t i f0 r f1) (hv:some v=r)
  (q:∀h',h'.get? it=some (itO f1 (i+1) S es.size ep)→Heap.SameBut it s.heap h'→Q (some v) { s with heap:=h' }):
  wpAny (model prog w) A (pyNext (.ref it)) Q E s:=by
 have hty:s.TypeIs (.ref it) "set_iterator":=⟨_,hit,rfl⟩
 unfold pyNext
 refine wpAny_bind (wpAny_attempt (wpAny_callSpecial?_slot (name:=Str.ofString "__next__") hty Z1 (wpAny_call_entry Z1 hty z1h ?_ (z3P _))))
 unfold Builtin.«set_iterator.__next__»
 refine wpAny_bind (m:=slotArgs _ _ _) (wpAny_pure ?_)
 refine wpAny_bind (wpAny_fieldsOf hit rfl ?_)
 dsimp only
 refine wpAny_bind (wpAny_setEntries_of hS rfl hf ?_)
 rw [kq (by simp)]
 have two:∀(f:Value) (h1:Heap),h1.get? it=some (itO f i S es.size ep)→Heap.SameBut it s.heap h1→f=f1→wpAny (model prog w) A.in1 (setField (.ref it) 1 (rawInt ((i:Int)+1)) >>= fun _=>ret v) (fun fin s'=>∃v,fin=Fin.done (Flow.ret v)∧wpAny (model prog w) A (pure (some v)) Q E s') (fun e s'=>
     wpAny (model prog w) A
      (do
       let __do_lift ←isInstance e (Value.type "StopIteration")
       if __do_lift=true then pure none else throw e)
      Q E s') { s with heap:=h1 }:=fun f h1 e1 sb ef=>by
  subst ef
  refine wpAny_bind (wpAny_setField_rec e1 (by simp) fun h2 e2 sb2=>wpAny_pure ⟨v,rfl,wpAny_pure (q h2 ?_ (sb.trans sb2))⟩)
  rw [e2]
  rfl
 cases way with
 | text hb=>
  dsimp only
  refine wpAny_bind (JG hS hf hb ?_)
  cases ho:(pickOrder (w.params.setOrder S ep) es)[i]? with
  | none=>rw [ho] at hv;cases hv
  | some e=>
   rw [show (((i:Nat):Int)).toNat=i from rfl,show (((ep:Nat):Int)).toNat=ep from rfl,ho]
   rw [ho] at hv
   cases hv
   refine wpAny_bind (wpAny_setField_rec hit (by simp) fun h1 e1 sb=>two (.int (0:Nat) 0) h1 e1 sb rfl)
 | drawn T o n places _ p ho hd hp he=>
  cases hv
  dsimp only
  refine wpAny_bind (wpAny_seqItems ho hd ?_)
  have e1:(places.map fun (i:Nat)=>Value.int i 0).toArray[((i:Nat):Int).toNat]?=some (.int p 0):=by
   rw [show (((i:Nat):Int)).toNat=i from rfl]
   simp [hp]
  obtain ⟨e,he,e2⟩:=Option.map_eq_some_iff.mp he
  dsimp only
  rw [e1]
  dsimp only
  refine wpAny_bind ?_
  unfold setNextDrawn
  refine wpAny_bind (wpAny_setState_of hS rfl hf ?_)
  dsimp only
  rw [kq (by simp),show (((p:Nat):Int)).toNat=p from rfl,he]
  subst e2
  exact wpAny_pure (two (.ref T) s.heap hit (.refl ..) rfl)
 | drawnEnd=>cases hv
 | led sl e j hb hl hz hbl he hp=>
  cases hv
  dsimp only
  refine wpAny_bind (z16 hS hf hb hl hz ?_)
  rw [show (((sl:Nat):Int)).toNat=sl from rfl,hbl,he,hp]
  exact wpAny_bind (wpAny_setField_rec hit (by simp) fun h1 e1 sb=>two (.int ((j+1:Nat):Int) 0) h1 e1 sb rfl)
 | ledEnd=>cases hv
theorem jc {it S:Addr} {i ep:Nat} {es:Array (Int × Value)} {t:SetTable} {f0 f1:Value} {Q:Option Value→Shared→Prop} (hh:A.handled=none) (hit:s.heap.get? it=some (itO f0 i S es.size ep)) (hS:s.heap.get? S=some (setX es ep t)) (hf:t.fits es.size=true)
  {r:Option Value} (way:WayI w s.heap S es ep t i f0 r f1) (hv:none=r)
  (q:∀h',(∀b o,b≠it→s.heap.get? b=some o→h'.get? b=some o)→Q none { s with heap:=h' }):
  wpAny (model prog w) A (pyNext (.ref it)) Q E s:=by
 have hty:s.TypeIs (.ref it) "set_iterator":=⟨_,hit,rfl⟩
 unfold pyNext
 refine wpAny_bind (wpAny_attempt (wpAny_callSpecial?_slot (name:=Str.ofString "__next__") hty Z1 (wpAny_call_entry Z1 hty z1h ?_ (z3P _))))
 unfold Builtin.«set_iterator.__next__»
 refine wpAny_bind (m:=slotArgs _ _ _) (wpAny_pure ?_)
 refine wpAny_bind (wpAny_fieldsOf hit rfl ?_)
 dsimp only
 refine wpAny_bind (wpAny_setEntries_of hS rfl hf ?_)
 rw [kq (by simp)]
 have two:∀(f:Value) (h1:Heap),h1.get? it=some (itO f i S es.size ep)→Heap.SameBut it s.heap h1→wpAny (model prog w) A.in1 (setField (.ref it) 2 Value.none >>= fun _=>newExc (.type "StopIteration") [] >>= fun e=>raiseNew e) (fun fin s'=>∃v,fin=Fin.done (Flow.ret v)∧wpAny (model prog w) A (pure (some v)) Q E s') (fun e s'=>
     wpAny (model prog w) A
      (do
       let __do_lift ←isInstance e (Value.type "StopIteration")
       if __do_lift=true then pure none else throw e)
      Q E s') { s with heap:=h1 }:=fun f h1 e1 sb=>by
  refine wpAny_bind (wpAny_setField_rec e1 (by simp) fun h2 e2 sb2=>z1u hh fun a h3 k3 ty=>?_)
  refine wpAny_bind (wpAny_isInstance (T:="StopIteration") (b:=true) ty isSubtype_stop ?_)
  exact wpAny_pure (q h3 fun b o hb e=>k3 b o ((sb2.2 b hb).trans ((sb.2 b hb).trans e)))
 cases way with
 | text hb=>
  dsimp only
  refine wpAny_bind (JG hS hf hb ?_)
  cases ho:(pickOrder (w.params.setOrder S ep) es)[i]? with
  | some e=>rw [ho] at hv;cases hv
  | none=>
   rw [show (((i:Nat):Int)).toNat=i from rfl,show (((ep:Nat):Int)).toNat=ep from rfl,ho]
   exact two _ s.heap hit (.refl ..)
 | drawn=>cases hv
 | drawnEnd T o n places ho hd hp=>
  dsimp only
  refine wpAny_bind (wpAny_seqItems ho hd ?_)
  have e1:(places.map fun (i:Nat)=>Value.int i 0).toArray[((i:Nat):Int).toNat]?=none:=by
   rw [show (((i:Nat):Int)).toNat=i from rfl]
   simp [hp]
  dsimp only
  rw [e1]
  dsimp only
  exact wpAny_bind (wpAny_setField_rec hit (by simp) fun h1 e1 sb=>two _ h1 e1 sb)
 | led=>cases hv
 | ledEnd sl hb hl hz hbl he=>
  dsimp only
  refine wpAny_bind (z16 hS hf hb hl hz ?_)
  rw [show (((sl:Nat):Int)).toNat=sl from rfl,hbl,he]
  exact two _ s.heap hit (.refl ..)
end
inductive WStI (w:World) (I S T:Addr) (vs:List Value) (i:Nat) (h:Heap):Prop
 | text (es:Array (Int × Value)) (ep:Nat) (t:SetTable):h.get? I=some (itO (.int (0:Nat) 0) i S es.size ep)→h.get? S=some (setX es ep t)→t.fits es.size=true→tob w=true→vs=(pickOrder (w.params.setOrder S ep) es).toList.map (·.2)→WStI w I S T vs i h
 | drawn (es:Array (Int × Value)) (ep:Nat) (t:SetTable) (o:Obj) (n:Nat) (ps:List Nat):h.get? I=some (itO (.ref T) i S es.size ep)→h.get? S=some (setX es ep t)→t.fits es.size=true→h.get? T=some o→o.data=.seq (ps.map fun (i:Nat)=>Value.int i 0).toArray n→(∀p∈ps,p < es.size)→vs=atPs es ps→WStI w I S T vs i h
 | led (es:Array (Int × Value)) (ep:Nat) (t:SetTable) (sl:Nat):h.get? I=some (itO (.int (sl:Nat) 0) i S es.size ep)→h.get? S=some (setX es ep t)→t.fits es.size=true→tob w=false→t.led=true→(!t.plain&&decide (es.size > 1))=false→Inc t.place→SetTable.below t.place sl=i→vs=es.toList.map (·.2)→WStI w I S T vs i h
theorem WStI.kept {w:World} {I S T:Addr} {vs:List Value} {i:Nat} {h h':Heap} (x:WStI w I S T vs i h) (k:∀b∈[I,S,T],∀o,h.get? b=some o→h'.get? b=some o):WStI w I S T vs i h':=by
 cases x with
 | text es ep t h1 h2 h3 h4 h5=>exact .text es ep t (k _ (by simp) _ h1) (k _ (by simp) _ h2) h3 h4 h5
 | drawn es ep t o n ps h1 h2 h3 h4 h5 h6 h7=>exact .drawn es ep t o n ps (k _ (by simp) _ h1) (k _ (by simp) _ h2) h3 (k _ (by simp) _ h4) h5 h6 h7
 | led es ep t sl h1 h2 h3 h4 h5 h6 h7 h8 h9=>exact .led es ep t sl (k _ (by simp) _ h1) (k _ (by simp) _ h2) h3 h4 h5 h6 h7 h8 h9
theorem WStI.ty {w:World} {I S T:Addr} {vs:List Value} {i:Nat} {s:Shared} (x:WStI w I S T vs i s.heap):s.TypeIs (.ref I) "set_iterator":=by
 cases x with
 | text es ep t h1=>exact ⟨_,h1,rfl⟩
 | drawn es ep t o n ps h1=>exact ⟨_,h1,rfl⟩
 | led es ep t sl h1=>exact ⟨_,h1,rfl⟩
section
variable {prog:Program} {w:World} {A:Around} {E:Value→Shared→Prop} {s:Shared}
theorem z1r {I S T:Addr} {vs:List Value} (hh:A.handled=none) (hS:S≠I) (hT:T≠I):Walks prog w A I [I,S,T] [I] vs.length (fun i v=>vs[i]?=some v) (fun i h=>WStI w I S T vs i h) where
 sub:=fun b hb=>by simp at hb;simp [hb]
 frame:=fun _ _ _ st k=>st.kept k
 item:=fun i s Q E hi st q=>by
  have sb3:∀{h':Heap},Heap.SameBut I s.heap h'→∀b o,b∉[I]→s.heap.get? b=some o→h'.get? b=some o:=fun sb b o hb e=>(sb.2 b (by simpa using hb)).trans e
  cases st with
  | text es ep t h1 h2 h3 h4 h5=>
   have hv:(pickOrder (w.params.setOrder S ep) es)[i]?.map (·.2)=some vs[i]:=by
    have:vs[i]?=some vs[i]:=kH hi
    rw [←this]
    conv=>rhs;rw [h5]
    rw [List.getElem?_map,Array.getElem?_toList]
   exact jb h1 h2 h3 (.text h4) hv.symm fun h' e1 sb=>q _ h' s.toks (kH hi) (.text es ep t e1 ((sb.2 S hS).trans h2) h3 h4 h5) (sb3 sb)
  | drawn es ep t o n ps h1 h2 h3 h4 h5 h6 h7=>
   have hl:vs.length=ps.length:=by rw [h7];simp [atPs]
   obtain ⟨p,hp⟩:∃p,ps[i]?=some p:=⟨ps[i]'(by lia),kH (by lia)⟩
   have hlt:=h6 _ (kD hp)
   have hv:vs[i]?=some es[p].2:=by
    rw [h7]
    unfold atPs
    rw [List.getElem?_map,hp]
    simp [hlt]
   exact jb h1 h2 h3 (.drawn T o n ps _ _ h4 h5 hp (by rw [Array.getElem?_eq_getElem hlt];rfl)) rfl fun h' e1 sb=>q _ h' s.toks hv (.drawn es ep t o n ps e1 ((sb.2 S hS).trans h2) h3 ((sb.2 T hT).trans h4) h5 h6 h7) (sb3 sb)
  | led es ep t sl h1 h2 h3 h4 h5 h6 h7 h8 h9=>
   have hl:vs.length=es.size:=by rw [h9];simp
   have hlt:i < es.size:=by lia
   have hpz:t.place.size=es.size:=by
    have h3':=h3
    simp only [SetTable.fits,kZ,beq_iff_eq] at h3'
    exact h3'.1
   have ep':t.place[i]?=some (t.place[i]'(by lia)):=Array.getElem?_eq_getElem (by lia)
   have ee:es[i]?=some es[i]:=Array.getElem?_eq_getElem hlt
   have hv:vs[i]?=some es[i].2:=by rw [h9,List.getElem?_map,Array.getElem?_toList,ee];rfl
   exact jb h1 h2 h3 (.led sl _ _ h4 h5 h6 h8 ee ep') rfl fun h' e1 sb=>q _ h' s.toks hv (.led es ep t _ e1 ((sb.2 S hS).trans h2) h3 h4 h5 h6 h7 (z28 h7 ep') h9) (sb3 sb)
 done:=fun s Q E st q=>by
  have k3:∀{h':Heap},(∀b o,b≠I→s.heap.get? b=some o→h'.get? b=some o)→∀b o,b∉[I]→s.heap.get? b=some o→h'.get? b=some o:=fun k b o hb e=>k b o (by simpa using hb) e
  cases st with
  | text es ep t h1 h2 h3 h4 h5=>
   have hv:(pickOrder (w.params.setOrder S ep) es)[vs.length]?.map (·.2)=none:=by
    rw [←Array.getElem?_toList,←List.getElem?_map,←h5]
    exact List.getElem?_eq_none (kc _)
   exact jc hh h1 h2 h3 (.text h4) hv.symm fun h' k=>q h' s.toks (k3 k)
  | drawn es ep t o n ps h1 h2 h3 h4 h5 h6 h7=>
   have hl:vs.length=ps.length:=by rw [h7];simp [atPs]
   exact jc hh h1 h2 h3 (.drawnEnd T o n ps h4 h5 (List.getElem?_eq_none (by lia))) rfl fun h' k=>q h' s.toks (k3 k)
  | led es ep t sl h1 h2 h3 h4 h5 h6 h7 h8 h9=>
   have hl:vs.length=es.size:=by rw [h9];simp
   exact jc hh h1 h2 h3 (.ledEnd sl h4 h5 h6 h8 (Array.getElem?_eq_none (by lia))) rfl fun h' k=>q h' s.toks (k3 k)
 self:=fun i s Q E st q=>by
  refine wpAny_pyIter_slot st.ty z2z (wpAny_call_entry z2z st.ty z4O ?_ (z6s _))
  show wpAny _ _ (ret (.ref I)) _ _ s
  exact wpAny_pure ⟨_,rfl,"set_iterator",_,st.ty,Z1.lookup,q⟩
end
end L2
namespace L2
open PySem PySem.Spec PyProof.Rows
section
variable {prog:Program} {w:World} {A:Around} {E:Value→Shared→Prop} {s:Shared}
theorem QI {es:Array (Int × Value)} {vs:List Value} {ks:List Int} (hel:ElemsOf (PySem.intKind prog w) es.toList) (hp:(es.toList.map fun e=>numOf e.2).Perm ks) (hv:vs.Perm (es.toList.map (·.2))):IntsAre vs (vs.map numOf)∧(vs.map numOf).Perm ks:=by
 refine ⟨intsAre_map vs fun v hm=>?_,?_⟩
 ·obtain ⟨e,he,rfl⟩:=yb.mp (hv.mem_iff.mp hm)
  obtain ⟨⟨k,hk,_⟩,_⟩:=hel e he
  obtain ⟨t,e2⟩:=z39 hk
  exact ⟨k,t,e2⟩
 ·refine (hv.map numOf).trans ?_
  rw [List.map_map]
  exact hp
theorem z37 {S:Addr} {ks:List Int} {Q:Value→Shared→Prop} (X:IxS prog w s.heap S ks)
  (q:∀I T vs h' d,S≠I→T≠I→(∀b,b < s.heap.objs.size→b≠S→b∉[I,S,T])→s.heap.objs.size≤I→WStI w I S T vs 0 h'→IntsAre vs (vs.map numOf)→(vs.map numOf).Perm ks→(∀b o,s.heap.get? b=some o→h'.get? b=some o)→Q (.ref I) { s with heap:=h',drawn:=d }):
  wpAny (model prog w) A (pyIter (.ref S)) Q E s:=by
 obtain ⟨es,ep,t,ho,hel,hp,hb,hf,hT,hled⟩:=X
 have hty:s.TypeIs (.ref S) "set":=⟨_,ho,rfl⟩
 have lt:=Heap.lt_size ho
 have lenE:es.size=ks.length:=by
  have:=hp.length_eq
  rw [kh,Array.length_toList] at this
  exact this
 refine wpAny_pyIter_slot hty PySem.F.slot_set_iter (wpAny_call_entry PySem.F.slot_set_iter hty z3u ?_ (PySem.F.args_set_iter_1 _))
 unfold Builtin.«frozenset.__iter__»
 refine wpAny_bind (m:=Builtin.Frozenset.slot0 _ _) (wpAny_pure ?_)
 unfold Builtin.Frozenset.sizeOf
 refine wpAny_bind (wpAny_bind (wpAny_setEntries_of ho rfl hf (wpAny_pure ?_)))
 unfold setDrawn
 refine wpAny_bind (wpAny_bind (wpAny_setState_of ho rfl hf ?_))
 unfold setsByText
 refine wpAny_bind (wpAny_bind (wpAny_askSetting (wpAny_pure ?_)))
 refine wpAny_pure ?_
 show wpAny _ _ (if (!w.params.followText "set-order"&&(!t.plain&&decide (es.size > 1)))=true then _ else _) _ _ _
 have fresh:∀I,s.heap.objs.size≤I→S≠I:=fun I h=>Nat.ne_of_lt (kI lt h)
 have plain:∀vs:List Value,(∀h':Heap,h'.get? s.heap.objs.size=some (itO (.int (0:Nat) 0) 0 S es.size ep)→h'.get? S=some (setX es ep t)→WStI w s.heap.objs.size S S vs 0 h')→vs.Perm (es.toList.map (·.2))→
   wpAny (model prog w) A.in1 (newFields "set_iterator" [.int 0 0,rawInt 0,.ref S,rawInt es.size,rawInt ep] >>= fun r=>ret r) (fun fin s'=>∃v,fin=Fin.done (Flow.ret v)∧∃T' r,s'.TypeIs v T'∧typeLookup (.type T') "__next__"=pure (some r)∧Q v s') E s:=fun vs mk hv=>by
  refine wpAny_bind (wpAny_newObj_type (wpAny_pure ⟨_,rfl,"set_iterator",_,⟨_,Heap.get?_push_size _ rfl,rfl⟩,Z1.lookup,?_⟩))
  obtain ⟨h1,h2⟩:=QI hel hp hv
  exact q _ S vs _ s.drawn (fresh _ (kc _)) (fresh _ (kc _)) (fun b hb hne=>by simp only [ky,km,or_false,not_or];exact ⟨by lia,hne,hne⟩) (kc _) (mk _ (Heap.get?_push_size _ rfl) (Heap.get?_push_of_some _ ho)) h1 h2 fun b o e=>Heap.get?_push_of_some _ e
 cases hbt:tob w with
 | true=>
  have eb:w.params.followText "set-order"=true:=hbt
  rw [eb]
  rw [kq (by simp)]
  refine wpAny_bind (wpAny_pure (wpAny_bind (wpAny_setEpoch_of ho rfl hf ?_)))
  exact plain _ (fun h' e1 e2=>.text es ep t e1 e2 hf hbt rfl) ((z1z _ _).map _)
 | false=>
  have eb:w.params.followText "set-order"=false:=hbt
  have hl:t.led=true:=by rw [hled,hbt];rfl
  rw [eb]
  cases hz:(!t.plain&&decide (es.size > 1)) with
  | true=>
   rw [kr (show (!false&&true)=true from rfl)]
   have hz1:es.size > 1:=by
    simp only [kZ,ya] at hz
    exact hz.2
   refine wpAny_bind (z3X _ _ _ (by simp) fun ys d hy=>wpAny_bind ?_)
   refine wpAny_newTuple ?_ (by rw [kh,hy.length_eq,List.length_range];exact fits_of_scanBound (by lia))
   refine wpAny_bind (wpAny_setEpoch_of (o:=setX es ep t) (Heap.get?_push_of_some _ ho) rfl hf ?_)
   refine wpAny_bind (wpAny_newObj_type (wpAny_pure ⟨_,rfl,"set_iterator",_,⟨_,Heap.get?_push_size _ rfl,rfl⟩,Z1.lookup,?_⟩))
   have hv:(atPs es ys).Perm (es.toList.map (·.2)):=by
    rw [←z4X]
    exact hy.map _
   obtain ⟨h1,h2⟩:=QI hel hp hv
   refine q _ s.heap.objs.size (atPs es ys) _ d (fresh _ (by rw [Heap.size_push];exact Nat.le_succ _)) (by rw [Heap.size_push];exact Nat.ne_of_lt (kX _)) (fun b hb hne=>by simp only [ky,km,or_false,not_or];rw [Heap.size_push];exact ⟨Nat.ne_of_lt (Nat.lt_succ_of_lt hb),hne,Nat.ne_of_lt hb⟩) (by rw [Heap.size_push];exact Nat.le_succ _) (.drawn es ep t _ 0 ys (Heap.get?_push_size _ rfl) (Heap.get?_push_of_some _ (Heap.get?_push_of_some _ ho)) hf (Heap.get?_push_of_some _ (Heap.get?_push_size _ rfl)) rfl (fun p hm=>List.mem_range.mp (hy.mem_iff.mp hm)) rfl) h1 h2 fun b o e=>Heap.get?_push_of_some _ (Heap.get?_push_of_some _ e)
  | false=>
   rw [kq (by simp)]
   refine wpAny_bind (wpAny_pure (wpAny_bind (wpAny_setEpoch_of ho rfl hf ?_)))
   exact plain _ (fun h' e1 e2=>.led es ep t 0 e1 e2 hf hbt hl hz hT.inc (z27 hT.inc) rfl) (.refl _)
theorem z02 {S:Addr} {ks:List Int} {Q:List Value→Shared→Prop} (hh:A.handled=none) (X:IxS prog w s.heap S ks)
  (q:∀s' vs,IntsAre vs (vs.map numOf)→(vs.map numOf).Perm ks→(∀b o,s.heap.get? b=some o→s'.heap.get? b=some o)→s'.gens=s.gens→s'.os=s.os→s.heap.objs.size≤s'.heap.objs.size→Q vs s'):
  wpAny (model prog w) A (collect (.ref S)) Q E s:=by
 obtain ⟨es,ep,t,ho,X2⟩:=id X
 have lt:=Heap.lt_size ho
 have hks:ks.length < scanBound:=X2.2.2.1
 unfold collect
 refine wpAny_bind (wpAny_runValue (codeAny_builtin PySem.F.entry_proto_collect ?_))
 rw [Around.under_plainId PySem.F.plain_proto_collect _]
 show wpAny _ A.in1 (newList [] >>= fun l=>again (.builtin "list.__iadd__" ⟨[l,.ref S],[]⟩)) _ _ s
 refine wpAny_bind (wpAny_newObj_type (wpAny_pure ⟨plainId_quiet PySem.F.plain_list_iadd _,codeAny_builtin PySem.F.entry_list_iadd ?_⟩))
 rw [Around.under_plainId PySem.F.plain_list_iadd _]
 show wpAny _ A.in1 (Builtin.List.listExtendWith (.ref s.heap.objs.size) (.ref S) (.ref s.heap.objs.size)) _ _ _
 unfold Builtin.List.listExtendWith
 have push:∀b o,s.heap.get? b=some o→(s.heap.push { cls:=.type "list",data:=.seq ([]:List Value).toArray }).get? b=some o:=fun b o e=>Heap.get?_push_of_some _ e
 have ty1:Shared.TypeIs { s with heap:=s.heap.push { cls:=.type "list",data:=.seq ([]:List Value).toArray } } (.ref S) "set":=⟨_,push _ _ ho,rfl⟩
 refine wpAny_bind (wpAny_typeOf ty1 ?_)
 have n1:Builtin.List.listSameRef (.ref s.heap.objs.size) (.ref S)=false:=by
  show (s.heap.objs.size == S)=false
  exact beq_eq_false_iff_ne.mpr (Nat.ne_of_gt lt)
 have n2:(Value.type "set" == Value.type "list")=false:=by decide
 have n3:(Value.type "set" == Value.type "tuple")=false:=by decide
 simp only [n1,n2,n3,Bool.or_false,Bool.false_eq_true,if_false]
 have X1:IxS prog w (s.heap.push { cls:=.type "list",data:=.seq ([]:List Value).toArray }) S ks:=X.kept fun o e=>push _ o e
 refine wpAny_bind (z37 X1 fun I T vs h' d f1 f2 f3 f4 st hs hp k=>?_)
 refine wpAny_bind (wpAny_holding ?_)
 have ty2:Shared.TypeIs { s with heap:=h',drawn:=d } (.ref S) "set":=⟨_,k _ _ (push _ _ ho),rfl⟩
 unfold Builtin.List.listLengthHint
 refine wpAny_bind (wpAny_specialOf ty2 PySem.F.slot_set_len.lookup ?_)
 wp_delta
 refine wpAny_bind (wpAny_isInstance (b:=true) ty2 sub_set_self ?_)
 show wpAny _ A.in1 (typeOf (Value.ref S) >>= _) _ _ _
 refine wpAny_bind (wpAny_typeOf ty2 ?_)
 refine wpAny_pure ?_
 rw [kr (by decide)]
 refine wpAny_bind (wpAny_rule ?_)
 refine wpAny_bind ?_
 show wpAny _ A.in1 (updateSeq s.heap.objs.size (·.push .none) >>= fun _=>updateSeq s.heap.objs.size (·.pop)) _ _ _
 have hL:h'.get? s.heap.objs.size=some { cls:=.type "list",data:=.seq #[] }:=k _ _ (Heap.get?_push_size _ rfl)
 refine wpAny_bind (wpAny_updateSeq hL rfl ?_)
 have hL2:=Heap.get?_update_self (Obj.mapSeq (·.push Value.none)) hL rfl
 refine wpAny_updateSeq (hz:=by seq_fits) hL2 rfl ?_
 have hL3:=Heap.get?_update_self (Obj.mapSeq (·.pop)) hL2 rfl
 have oth:∀b o,b≠s.heap.objs.size→h'.get? b=some o→((h'.update s.heap.objs.size (Obj.mapSeq (·.push Value.none))).update s.heap.objs.size (Obj.mapSeq (·.pop))).get? b=some o:=
  fun b o hb e=>(Heap.get?_update_other _ _ (Ne.symm hb)).trans ((Heap.get?_update_other _ _ (Ne.symm hb)).trans e)
 have hSf:s.heap.objs.size∉[I,S,T]:=f3 _ (by rw [Heap.size_push];exact kX _) (Nat.ne_of_gt lt)
 have hlen:vs.length≤sizeLine:=by
  have:=hp.length_eq
  rw [kh] at this
  exact fits_of_scanBound (by lia)
 have hh2:A.in1.handled=none:=by simpa using hh
 have st2:WStI w I S T vs 0 ((h'.update s.heap.objs.size (Obj.mapSeq (·.push Value.none))).update s.heap.objs.size (Obj.mapSeq (·.pop))):=st.kept fun b hb o e=>oth b o (fun z=>hSf (z▸hb)) e
 refine wpAny_pure ⟨plainId_quiet PySem.F.plain_extend_loop _,codeAny_extend_loopS (A:=A) (z1r (prog:=prog) (w:=w) (vs:=vs) hh2 f1 f2).toS hlen s.heap.objs.size hSf _ vs.length 0 _ _ _ rfl (Nat.zero_le _) st2 hL3 (ItemsOf.nil _) fun s' acc c hm hS' hacc=>?_⟩
 show wpAny _ A (load s.heap.objs.size >>= _) _ _ s'
 refine wpAny_bind (wpAny_load hS' ?_)
 have e1:acc.toList=vs:=by
  refine List.ext_getElem? fun j=>?_
  rw [Array.getElem?_toList]
  cases e:acc[j]? with
  | some v=>exact (hacc.2 j v e).symm
  | none=>
   rw [List.getElem?_eq_none]
   have:=Array.getElem?_eq_none_iff.mp e
   have h1:=hacc.1
   lia
 show wpAny _ _ (pure acc.toList) Q E s'
 rw [e1]
 have keep:∀b o,s.heap.get? b=some o→s'.heap.get? b=some o:=fun b o e=>by
  have lb:=Heap.lt_size e
  refine hm.heap b o ?_ (oth b o (Nat.ne_of_lt lb) (k _ _ (push _ _ e)))
  simp only [ky,km,or_false,not_or]
  refine ⟨Nat.ne_of_lt lb,fun z=>?_⟩
  rw [Heap.size_push] at f4
  rw [z] at lb
  exact absurd (kI lb (Nat.le_of_succ_le f4)) (Nat.lt_irrefl _)
 refine wpAny_pure (q s' vs hs hp keep hm.gens hm.os ?_)
 exact Nat.le_of_lt (Heap.lt_size hS')
theorem QQ {S:Addr} {ks:List Int} {Q:Value→Shared→Prop} (hh:A.handled=none) (X:IxS prog w s.heap S ks) (h64:ks.length < 64)
  (q:∀s' D (out:Array Value) (ks':List Int) e,IntsAre out.toList ks'→ks'.Perm ks→ks'.Pairwise (· ≤·)→s.heap.objs.size≤D→s'.heap.get? D=some (seqObj "list" out e)→(∀b o,s.heap.get? b=some o→s'.heap.get? b=some o)→s'.gens=s.gens→s'.os=s.os→Q (.ref D) s'):
  wpAny (model prog w) A (call (.builtin "sorted") [.ref S]) Q E s:=by
 refine Calls.call_function_entry kind_sorted plain_sorted entry_sorted (args_sorted1 _) ?_
 unfold Builtin.«sorted»
 refine wpAny_bind (m:=checkCount "sorted" 1 1 _) (wpAny_pure ?_)
 refine wpAny_bind (z02 (by simpa using hh) X fun s' vs hs hp keep hg hos hsz=>?_)
 have hl64:vs.length < 64:=by
  have:=hp.length_eq
  rw [kh] at this
  lia
 refine wpAny_bind (wpAny_newList ?_ (by rw [sizeLine_eq];lia))
 have hoL:(s'.heap.push (seqObj "list" vs.toArray 0)).get? s'.heap.objs.size=some (seqObj "list" vs.toArray 0):=Heap.get?_push_size _ rfl
 refine wpAny_bind (wpAny_holding (wpAny_call_entry slot_list_sort ⟨_,hoL,rfl⟩ entry_list_sort (list_sort_tree hoL hs hl64 fun out ks' b1 b2 b3=>⟨_,rfl,?_⟩) (args_list_sort _)))
 refine wpAny_pure ⟨_,rfl,?_⟩
 obtain ⟨e,he⟩:∃e,(sortedHeap (s'.heap.push (seqObj "list" vs.toArray 0)) s'.heap.objs.size vs out).get? s'.heap.objs.size=some (seqObj "list" out e):=sortedHeap_at (n:=0) hoL
 refine q _ s'.heap.objs.size _ ks' e b1 (b2.trans hp) b3 hsz he (fun b o eb=>?_) hg hos
 have lb:=Heap.lt_size (keep b o eb)
 rw [sortedHeap_old (Nat.ne_of_lt lb) (by rw [Heap.size_push];exact Nat.lt_succ_of_lt lb)]
 exact Heap.get?_push_of_some _ (keep b o eb)
end
section
variable {X:Cx}
noncomputable def jG (P:Program) (w:World) (a:Addr) (ks:List Int):HO:=.ext fun h=>IxS P w h a ks
theorem z0J:∀{us:List Value} {ks:List Int},IntsAre us ks→Vals (ks.map V.int) us
 | _,_,.nil=>.nil
 | _,_,.cons k t h=>.cons ⟨t,rfl⟩ (z0J h)
theorem Zr (hc:X.calm=true):Jl X (.builtin "sorted") (fun xs H Q=>∃(p:Addr) (ks:List Int),xs=[V.ref p]∧H p=some (jG X.prog X.w p ks)∧ks.length < 64∧∀(d:Addr) (ks':List Int),H d=none→ks'.Perm ks→ks'.Pairwise (· ≤·)→Q (.ref d) (upd H d (.lst (ks'.map V.int)))):=by
 intro pins s σ H xs us Q I r h
 obtain ⟨p,ks,rfl,hl,hz,q⟩:=h
 obtain ⟨u,rfl,ru⟩:=z3Z r
 cases ru
 have T:IxS X.prog X.w s.heap p ks:=(show qi X.prog X.w H s.heap p (jG X.prog X.w p ks) from I.hok p _ hl).1
 refine QQ (I.ok.hd hc) T hz fun s' D out ks' e h1 h2 h3 h4 h5 keep o2 o1=>?_
 have hn:=I.hok.fresh h4
 have I':=I.laid (a:=D) (o:=.lst (ks'.map V.int)) (h':=s'.heap) (t':=s'.toks) keep h4 ⟨by rw [kh,h2.length_eq,sizeLine_eq];lia,out.toList,e,z0J h1,by simpa using h5⟩
 exact ⟨.ref D,_,⟨I'.ok,o1.trans I'.os,by rw [o2];exact I'.bare,I'.base,I'.loc,I'.cell,I'.free,I'.freeC,I'.pin,I'.hok,I'.len⟩,rfl,q _ _ hn h2 h3⟩
end
end L2
namespace My
open PySem PySem.Spec PyProof.Rows L2
variable {P:Program} {w:World} {K:ko} {mg:Str→Option Value} {base:Heap}
theorem QG:∀{l l':List Nat},l.Pairwise (· < ·)→l'.Pairwise (· < ·)→(∀x,x∈l↔x∈l')→l=l'
 | [],[],_,_,_=>rfl
 | [],y :: l',_,_,h=>absurd ((h y).mpr (kM ..)) (by simp)
 | x :: l,[],_,_,h=>absurd ((h x).mp (kM ..)) (by simp)
 | x :: l,y :: l',h1,h2,h=>by
  obtain ⟨a1,a2⟩:=List.pairwise_cons.mp h1
  obtain ⟨b1,b2⟩:=List.pairwise_cons.mp h2
  have exy:x=y:=by
   rcases ky.mp ((h x).mp (kM ..)) with z | z
   ·exact z
   ·rcases ky.mp ((h y).mpr (kM ..)) with z' | z'
    ·exact z'.symm
    ·have:=b1 x z
     have:=a1 y z'
     lia
  subst exy
  rw [QG a2 b2 fun z=>?_]
  constructor
  ·intro hz
   rcases ky.mp ((h z).mp (kN _ hz)) with e | e
   ·have:=a1 z hz
    lia
   ·exact e
  ·intro hz
   rcases ky.mp ((h z).mpr (kN _ hz)) with e | e
   ·have:=b1 z hz
    lia
   ·exact e
noncomputable def qc (n:Nat) (p:Nat→Bool):List Nat:=(List.range n).filter p
theorem Zc (n:Nat) (p:Nat→Bool):(qc n p).Pairwise (· < ·):=List.Pairwise.filter _ List.pairwise_lt_range
theorem qk {n:Nat} {p:Nat→Bool} {x:Nat}:x∈qc n p↔x < n∧p x=true:=by
 unfold qc
 rw [List.mem_filter,List.mem_range]
theorem qE (n:Nat) (p:Nat→Bool):(qc n p).length≤n:=by
 unfold qc
 have:=List.length_filter_le p (List.range n)
 rw [List.length_range] at this
 exact this
theorem z75 {l:List Int} (h:l.Pairwise (· ≤·)) (hn:l.Nodup):l.Pairwise (· < ·):=by
 have:=List.Pairwise.and h hn
 refine this.imp fun {a b} zz=>?_
 obtain ⟨h1,h2⟩:=zz
 have:a≠b:=h2
 lia
theorem Ju {ks' ks:List Int} {l:List Nat} (hp:ks'.Perm ks) (hs:ks'.Pairwise (· ≤·)) (hn:ks.Nodup) (hl:l.Pairwise (· < ·)) (hm:∀z,z∈ks↔∃j∈l,z=(j:Int)):ks'=l.map fun j:Nat=>(j:Int):=by
 have inc:=z75 hs (hp.nodup_iff.mpr hn)
 have pos:∀z∈ks',∃j:Nat,z=(j:Int):=fun z hz=>by
  obtain ⟨j,_,e⟩:=(hm z).mp (hp.mem_iff.mp hz)
  exact ⟨j,e⟩
 have e1:ks'=(ks'.map Int.toNat).map fun j:Nat=>(j:Int):=by
  rw [List.map_map]
  conv=>lhs;rw [←List.map_id ks']
  refine List.map_congr_left fun z hz=>?_
  obtain ⟨j,rfl⟩:=pos z hz
  rfl
 rw [e1]
 congr 1
 refine QG ?_ hl fun x=>?_
 ·rw [List.pairwise_map]
  refine List.Pairwise.imp_of_mem (fun {a b} ha hb h=>?_) inc
  obtain ⟨i,rfl⟩:=pos a ha
  obtain ⟨j,rfl⟩:=pos b hb
  simpa using h
 ·rw [yb]
  constructor
  ·rintro ⟨z,hz,rfl⟩
   obtain ⟨j,hj,rfl⟩:=(hm z).mp (hp.mem_iff.mp hz)
   exact hj
  ·intro hx
   exact ⟨(x:Int),hp.mem_iff.mpr ((hm _).mpr ⟨x,hx,rfl⟩),rfl⟩
theorem z3Q {ks:List Int} {z:Int} (h:ks.Nodup):(addI ks z).Nodup:=by
 unfold addI
 split
 ·exact h
 ·rename_i hz
  rw [List.nodup_append]
  refine ⟨h,by simp,fun a ha b hb=>?_⟩
  rw [kl.mp hb]
  exact fun e=>hz (e▸ha)
theorem J3 {ks:List Int} {z x:Int}:x∈addI ks z↔x∈ks∨x=z:=by
 unfold addI
 split
 ·rename_i hz
  constructor
  ·exact .inl
  ·rintro (h | rfl)
   ·exact h
   ·exact hz
 ·simp
theorem JH:∀{L M:List Nat},L.Nodup→(∀x∈L,x∈M)→L.length≤M.length
 | [],M,_,_=>Nat.zero_le _
 | x :: L,M,hn,h=>by
  obtain ⟨h1,h2⟩:=List.nodup_cons.mp hn
  have hx:=h x (kM ..)
  have ih:=JH (L:=L) (M:=M.erase x) h2 fun y hy=>by
   have:y≠x:=fun e=>h1 (e▸hy)
   exact (List.mem_erase_of_ne this).mpr (h y (kN _ hy))
  rw [List.length_erase_of_mem hx] at ih
  have:0 < M.length:=List.length_pos_of_mem hx
  rw [kL]
  lia
theorem z0L {p q r:Nat→Bool} (h1:∀x,p x=true→q x=false∧r x=false) (h2:∀x,q x=true→r x=false):∀l:List Nat,(l.filter p).length+(l.filter q).length+(l.filter r).length≤l.length
 | []=>by simp
 | x :: l=>by
  have ih:=z0L h1 h2 l
  rw [List.filter_cons,List.filter_cons,List.filter_cons,kL]
  cases hp:p x with
  | true=>
   obtain ⟨a,b⟩:=h1 x hp
   rw [a,b]
   simp
   lia
  | false=>
   cases hq:q x with
   | true=>
    rw [h2 x hq]
    simp
    lia
   | false=>
    cases r x <;> simp <;> lia
theorem z3J {rs:List Row} {Pr:Sta→Prop} (hn:∀(p:Nat) r s,rs[p]?=some r→jt rs p r s.1 s.2.getLast?=[]→Pr s→∀n∈j7 rs p r s,Pr n.2):
  ∀(n:Nat) (f:Fnd) (w:List Nat) {fin:Fnd},(∀(p:Nat) s,f[p]?=some (some s)→Pr s)→bfs rs n f w=some fin→∀(p:Nat) s,fin[p]?=some (some s)→Pr s
 | n,f,[],fin,I,h=>by
  have:bfs rs n f []=some f:=by cases n <;> rfl
  rw [this] at h
  cases h
  exact I
 | 0,f,p :: w,fin,I,h=>by cases h
 | n+1,f,p :: w,fin,I,h=>by
  unfold bfs at h
  cases hr:rs[p]? with
  | none=>rw [hr] at h;cases h
  | some r=>
   cases hp:f[p]? with
   | none=>rw [hr,hp] at h;cases h
   | some o=>
    cases o with
    | none=>rw [hr,hp] at h;cases h
    | some s=>
     rw [hr,hp] at h
     dsimp only at h
     by_cases hz:(jt rs p r s.1 s.2.getLast?).isEmpty=true∧s.2.length≤1000
     case neg=>rw [kq hz] at h;cases h
     rw [kr hz] at h
     cases hx:Zd (j7 rs p r s) f w with
     | none=>rw [hx] at h;cases h
     | some fw=>
      obtain ⟨f',w'⟩:=fw
      rw [hx] at h
      dsimp only at h
      obtain ⟨a,b,c,d,g⟩:=jJ _ _ _ hx
      refine z3J hn n f' w' (fun q sq hq=>?_) h
      rcases d q sq hq with z | ⟨z1,z2,z3⟩
      ·exact I q sq z
      ·exact hn p r s hr (List.isEmpty_iff.mp hz.1) (I p s hp) _ z3
def TryP (rs:List Row) (s:Sta):Prop:=∀g∈s.2,∃r∈rs,r.op="try"∧argM r.arg=g.1
theorem z4k {rs:List Row} (p:Nat) (r:Row) (s:Sta) (hr:rs[p]?=some r) (_:jt rs p r s.1 s.2.getLast?=[]) (h:TryP rs s):∀n∈j7 rs p r s,TryP rs n.2:=by
 intro n hn g hg
 unfold j7 at hn
 obtain ⟨m,hm,rfl⟩:=yb.mp hn
 have hg:g∈qr r s.1 s.2 m.2.2:=hg
 unfold qr at hg
 split at hg
 ·rename_i h1
  rcases kO.mp hg with z | z
  ·exact h g z
  ·rw [kl.mp z]
   refine ⟨r,kD hr,?_,rfl⟩
   unfold qG at hm
   split at hm
   ·cases hm
   split at hm
   ·cases hm
   rcases kO.mp hm with hm | hm
   ·rcases kO.mp hm with hm | hm
    ·unfold mv1 at hm
     split at hm
     ·cases hm
     rw [kl.mp hm] at h1
     exact z1c h1
    ·unfold mv2 at hm
     split at hm
     ·rw [kl.mp hm] at h1
      exact absurd (show (0:Int)=1 from h1) (by decide)
     ·cases hm
   ·unfold mv3 at hm
    split at hm
    ·split at hm
     ·rw [kl.mp hm] at h1
      exact absurd (show (-1:Int)=1 from h1) (by decide)
     ·cases hm
    ·cases hm
 ·split at hg
  ·exact h g ((List.dropLast_sublist _).subset hg)
  ·exact h g hg
theorem z1v {rs:List Row} {fin:Fnd} (h0:0 < rs.length) (h:qR rs=some fin):∀(p:Nat) s,fin[p]?=some (some s)→TryP rs s:=by
 unfold qR at h
 refine z3J (Pr:=TryP rs) z4k 300 _ _ (fun p s hp=>?_) h
 by_cases z:p=0
 ·subst z
  rw [List.getElem?_set_self (by rw [List.length_replicate];exact h0)] at hp
  cases hp
  exact fun g hg=>by cases hg
 ·rw [List.getElem?_set_ne (Ne.symm z),List.getElem?_replicate] at hp
  split at hp <;> cases hp
noncomputable def qq (rs:List Row) (fin:Fnd) (p:Nat):List Nat:=match rs[p]?,fin[p]? with
 | some r,some (some s)=>qc rs.length fun j=>(j7 rs p r s).any fun n=>decide (n.1=.int (j:Int))
 | _,_=>[]
noncomputable def opAt (rs:List Row) (p:Nat):Str:=match rs[p]? with
 | some r=>r.op
 | none=>""
noncomputable def z6g (op:Str):Bool:=inT op jumping||inT op ["return","raise"]
noncomputable def jq (rs:List Row) (p:Nat):Bool:=decide (p=0)||decide (opAt rs p="label")||z6g (opAt rs (p - 1))
noncomputable def zt (rs:List Row):List Nat:=qc rs.length (jq rs)
noncomputable def Zq (rs:List Row):List Nat:=(zt rs).drop 1++[rs.length]
theorem jQ (rs:List Row):(zt rs).Pairwise (· < ·):=Zc _ _
theorem ZD {rs:List Row} (h:1≤rs.length):0∈zt rs:=qk.mpr ⟨h,by unfold jq;simp⟩
theorem Jc {rs:List Row} (h:1≤rs.length):(Zq rs).length=(zt rs).length:=by
 unfold Zq
 have:0 < (zt rs).length:=List.length_pos_of_mem (ZD h)
 simp
 lia
theorem z3K {rs:List Row} {j a b h:Nat} (ha:(zt rs)[j]?=some a) (hb:(Zq rs)[j]?=some b) (hh:h∈zt rs) (hab:a < h):b≤h:=by
 obtain ⟨k,hk,ek⟩:=List.mem_iff_getElem.mp hh
 obtain ⟨hj,ej⟩:=ke.mp ha
 have inc:=List.pairwise_iff_getElem.mp (jQ rs)
 have hjk:j < k:=by
  refine Nat.lt_of_not_le fun hle=>?_
  rcases Nat.lt_or_eq_of_le hle with z | z
  ·have:=inc k j hk hj z
   lia
  ·subst z
   lia
 unfold Zq at hb
 by_cases hl:j+1 < (zt rs).length
 ·rw [yc (by rw [List.length_drop];lia),List.getElem?_drop,kH (by lia)] at hb
  cases hb
  rcases Nat.lt_or_eq_of_le (show 1+j≤k by lia) with z | z
  ·have:=inc (1+j) k (by lia) hk z
   lia
  ·subst z
   lia
 ·lia
theorem z3w {rs:List Row} {j b:Nat} (hb:(Zq rs)[j]?=some b):b≤rs.length:=by
 have:=kD hb
 unfold Zq at this
 rcases kO.mp this with z | z
 ·exact Nat.le_of_lt (qk.mp (List.mem_of_mem_drop z)).1
 ·rw [kl.mp z]
  exact kc _
noncomputable def labN (rs:List Row) (m:Int):Nat:=(zG rs m).getD 0
theorem J5 {rs:List Row} {m:Int} {g:Nat} (h:labV rs m=.int (g:Int)):zG rs m=some g∧labN rs m=g:=by
 unfold labV at h
 unfold labN
 cases e:zG rs m with
 | none=>rw [e] at h;cases h
 | some j=>
  rw [e] at h
  have:(j:Int)=g:=by injection h
  have:j=g:=by lia
  subst this
  exact ⟨rfl,rfl⟩
theorem z5W {rs:List Row} {m:Int} {g:Nat} (h:zG rs m=some g):opAt rs g="label":=by
 unfold zG at h
 obtain ⟨hg,hp,_⟩:=List.findIdx?_eq_some_iff_getElem.mp h
 unfold opAt
 rw [kH hg]
 unfold labP at hp
 simp only [kZ,ya] at hp
 exact hp.1
theorem z5Q {rs:List Row} {p:Nat} {x:Str} (h:opAt rs p=x) (hx:x≠""):p < rs.length:=by
 unfold opAt at h
 cases e:rs[p]? with
 | none=>rw [e] at h;exact absurd h.symm hx
 | some r=>exact (ke.mp e).1
noncomputable def z61 (fin:Fnd) (p:Nat):Int:=match fin[p]? with
 | some (some s)=>(match s.2.getLast? with | some g=>g.1 | none=>0)
 | _=>0
noncomputable def z0b (rs:List Row) (p:Nat):Int:=match rs[p]? with
 | some r=>argM r.arg
 | none=>0
def QN (rs:List Row) (fin:Fnd) (g:Nat):Prop:=∃(p:Nat) (s:Sta) (gd:Gd),fin[p]?=some (some s)∧inT (opAt rs p) faulting=true∧p < rs.length∧s.2.getLast?=some gd∧labV rs gd.1=.int (g:Int)
theorem z1S {rs:List Row} {fin:Fnd} {p g:Nat} (h:g∈qq rs fin p):g=p+1∨(inT (opAt rs p) jumping=true∧labV rs (z0b rs p)=.int (g:Int))∨QN rs fin g:=by
 unfold qq at h
 split at h
 ·rename_i r s hr hs
  obtain ⟨_,h⟩:=qk.mp h
  obtain ⟨n,hn,e⟩:=List.any_eq_true.mp h
  have e:=kw e
  unfold j7 at hn
  obtain ⟨m,hm,rfl⟩:=yb.mp hn
  have e:m.1=.int (g:Int):=e
  have ho:opAt rs p=r.op:=by unfold opAt;rw [hr]
  have ha:z0b rs p=argM r.arg:=by unfold z0b;rw [hr]
  unfold qG at hm
  split at hm
  ·cases hm
  split at hm
  ·cases hm
  rcases kO.mp hm with hm | hm
  ·rcases kO.mp hm with hm | hm
   ·unfold mv1 at hm
    split at hm
    ·cases hm
    rw [kl.mp hm] at e
    refine .inl ?_
    have:((p:Int)+1)=g:=by injection e
    lia
   ·unfold mv2 at hm
    split at hm
    ·rename_i hj
     rw [kl.mp hm] at e
     exact .inr (.inl ⟨by rw [ho];exact hj,by rw [ha];exact e⟩)
    ·cases hm
  ·unfold mv3 at hm
   split at hm
   ·rename_i hf
    split at hm
    ·rename_i gd eg
     rw [kl.mp hm] at e
     exact .inr (.inr ⟨p,s,gd,hs,by rw [ho];exact hf,(ke.mp hr).1,eg,e⟩)
    ·cases hm
   ·cases hm
 ·cases h
theorem z3s {rs:List Row} {fin:Fnd} (h1:1≤rs.length) (h2:rs.length≤150) (h:qR rs=some fin) {S:List Nat} (hn:S.Nodup) (hS:∀g∈S,QN rs fin g):S.length≤50:=by
 have T:=z1v (by lia) h
 have a1:=JH (M:=(List.range rs.length).filter fun p=>decide (opAt rs p="label")) hn fun g hg=>by
  obtain ⟨p,s,gd,e1,e2,e3,e4,e5⟩:=hS g hg
  have:=z5W (J5 e5).1
  exact List.mem_filter.mpr ⟨List.mem_range.mpr (z5Q this (by decide)),kg this⟩
 have a2:=JH (M:=((List.range rs.length).filter fun p=>inT (opAt rs p) faulting).map fun p=>labN rs (z61 fin p)) hn fun g hg=>by
  obtain ⟨p,s,gd,e1,e2,e3,e4,e5⟩:=hS g hg
  refine yb.mpr ⟨p,List.mem_filter.mpr ⟨List.mem_range.mpr e3,e2⟩,?_⟩
  have:z61 fin p=gd.1:=by
   unfold z61
   rw [e1]
   dsimp only
   rw [e4]
  rw [this]
  exact (J5 e5).2
 have a3:=JH (M:=((List.range rs.length).filter fun p=>decide (opAt rs p="try")).map fun p=>labN rs (z0b rs p)) hn fun g hg=>by
  obtain ⟨p,s,gd,e1,e2,e3,e4,e5⟩:=hS g hg
  obtain ⟨r,hr,ho,ha⟩:=T p s e1 gd (List.mem_of_getLast? e4)
  obtain ⟨q,hq,eq⟩:=List.mem_iff_getElem.mp hr
  have er:rs[q]?=some r:=by rw [kH hq,eq]
  refine yb.mpr ⟨q,List.mem_filter.mpr ⟨List.mem_range.mpr hq,kg (by unfold opAt;rw [er];exact ho)⟩,?_⟩
  have:z0b rs q=gd.1:=by
   unfold z0b
   rw [er]
   exact ha
  rw [this]
  exact (J5 e5).2
 rw [kh] at a2 a3
 have fl:inT ("label":Str) faulting=false:=by trivial
 have ft:inT ("try":Str) faulting=false:=by trivial
 have:=z0L (p:=fun p=>decide (opAt rs p="label")) (q:=fun p=>inT (opAt rs p) faulting) (r:=fun p=>decide (opAt rs p="try")) (fun x hx=>by
  have hx:=kw hx
  rw [hx]
  exact ⟨fl,by decide⟩) (fun x hx=>by
  refine kf fun z=>?_
  rw [z,ft] at hx
  cases hx) (List.range rs.length)
 rw [List.length_range] at this
 lia
noncomputable def qP (rs:List Row) (fin:Fnd) (a b:Nat):List Nat:=qc (zt rs).length fun k=>(List.range (b - a)).any fun i=>(qq rs fin (a+i)).contains ((zt rs).getD k 0)
theorem jO {rs:List Row} {fin:Fnd} {a b k:Nat}:k∈qP rs fin a b↔∃(g p:Nat),(zt rs)[k]?=some g∧a≤p∧p < b∧g∈qq rs fin p:=by
 unfold qP
 rw [qk,List.any_eq_true]
 constructor
 ·rintro ⟨hk,i,hi,hc⟩
  have hi:=List.mem_range.mp hi
  have e:(zt rs)[k]?=some (zt rs)[k]:=kH hk
  have ed:(zt rs).getD k 0=(zt rs)[k]:=by rw [List.getD_eq_getElem?_getD,e];rfl
  rw [ed] at hc
  exact ⟨_,a+i,e,by lia,by lia,by simpa using hc⟩
 ·rintro ⟨g,p,e,h1,h2,hg⟩
  have hk:=(ke.mp e).1
  have ed:(zt rs).getD k 0=g:=by rw [List.getD_eq_getElem?_getD,e];rfl
  refine ⟨hk,p - a,List.mem_range.mpr (by lia),?_⟩
  rw [ed,show a+(p - a)=p by lia]
  simpa using hg
theorem z0M (p:Nat→Bool):∀S:List Nat,S.length=(S.filter p).length+(S.filter fun x=> !p x).length
 | []=>rfl
 | x :: S=>by
  have:=z0M p S
  rw [List.filter_cons,List.filter_cons,kL]
  cases p x <;> simp <;> lia
open Classical in
theorem z32 {rs:List Row} {fin:Fnd} (h1:1≤rs.length) (h2:rs.length≤150) (h:qR rs=some fin) {j a b:Nat} (ha:(zt rs)[j]?=some a) (hb:(Zq rs)[j]?=some b):(qP rs fin a b).length≤52:=by
 have inc:=List.pairwise_iff_getElem.mp (jQ rs)
 have nd:((qP rs fin a b).map fun k=>(zt rs).getD k 0).Nodup:=by
  show List.Pairwise (· ≠·) _
  rw [List.pairwise_map]
  have:=Zc (zt rs).length fun k=>(List.range (b - a)).any fun i=>(qq rs fin (a+i)).contains ((zt rs).getD k 0)
  refine List.Pairwise.imp_of_mem (fun {x y} hx hy hxy=>?_) this
  have hx:=(qk.mp hx).1
  have hy:=(qk.mp hy).1
  have e:(zt rs).getD x 0=(zt rs)[x]:=by rw [List.getD_eq_getElem?_getD,kH hx];rfl
  have e':(zt rs).getD y 0=(zt rs)[y]:=by rw [List.getD_eq_getElem?_getD,kH hy];rfl
  rw [e,e']
  have:=inc x y hx hy hxy
  lia
 have mem:∀g∈(qP rs fin a b).map (fun k=>(zt rs).getD k 0),g=b∨g=labN rs (z0b rs (b - 1))∨QN rs fin g:=by
  intro g hg
  obtain ⟨k,hk,rfl⟩:=yb.mp hg
  obtain ⟨g,p,e,p1,p2,hgp⟩:=jO.mp hk
  have ed:(zt rs).getD k 0=g:=by rw [List.getD_eq_getElem?_getD,e];rfl
  rw [ed]
  have hgh:g∈zt rs:=kD e
  have bl:=z3w hb
  rcases z1S hgp with z | ⟨z1,z2⟩ | z
  ·refine .inl ?_
   have:=z3K ha hb hgh (by lia)
   lia
  ·refine .inr (.inl ?_)
   have pl:p+1=b:=by
    refine Nat.le_antisymm p2 (Nat.le_of_not_lt fun hlt=>?_)
    have hh:p+1∈zt rs:=qk.mpr ⟨by lia,by unfold jq z6g;rw [Nat.add_sub_cancel,z1];simp⟩
    have:=z3K ha hb hh (by lia)
    lia
   have:b - 1=p:=by lia
   rw [this]
   exact (J5 z2).2.symm
  ·exact .inr (.inr z)
 have len:(qP rs fin a b).length=((qP rs fin a b).map fun k=>(zt rs).getD k 0).length:=by rw [kh]
 rw [len]
 generalize (qP rs fin a b).map (fun k=>(zt rs).getD k 0)=S at nd mem
 have e:=z0M (fun g=>decide (QN rs fin g)) S
 have f1:=z3s h1 h2 h (nd.filter (fun g=>decide (QN rs fin g))) fun g hg=>kw (List.mem_filter.mp hg).2
 have f2:=JH (M:=[b,labN rs (z0b rs (b - 1))]) (nd.filter (fun g=> !decide (QN rs fin g))) fun g hg=>by
  obtain ⟨h1,h2⟩:=List.mem_filter.mp hg
  rcases mem g h1 with z | z | z
  ·simp [z]
  ·simp [z]
  ·rw [kg z] at h2
   cases h2
 simp only [kL,List.length_nil] at f2
 lia
noncomputable def j5 (rs:List Row) (fin:Fnd):List (List Nat):=List.zipWith (qP rs fin) (zt rs) (Zq rs)
theorem Zl {rs:List Row} {fin:Fnd} (h:1≤rs.length):(j5 rs fin).length=(zt rs).length:=by
 unfold j5
 rw [List.length_zipWith,Jc h]
 lia
theorem z4q {rs:List Row} {fin:Fnd} (h:1≤rs.length):∀l∈j5 rs fin,∀j∈l,j < (j5 rs fin).length:=by
 intro l hl j hj
 rw [Zl h]
 unfold j5 at hl
 obtain ⟨i,hi,e⟩:=List.mem_iff_getElem.mp hl
 rw [List.getElem_zipWith] at e
 subst e
 obtain ⟨g,p,e,_⟩:=jO.mp hj
 exact (ke.mp e).1
inductive Rb (N:List (List Nat)) (b:Option Nat):Nat→Prop where
 | zero:b≠some 0→Rb N b 0
 | step {i j:Nat} {l:List Nat}:Rb N b i→N[i]?=some l→j∈l→b≠some j→Rb N b j
theorem Rb.ne {N:List (List Nat)} {b:Option Nat} {k:Nat} (h:Rb N b k):b≠some k:=by
 cases h with
 | zero h=>exact h
 | step _ _ _ h=>exact h
theorem Rb.lt {N:List (List Nat)} {b:Option Nat} {k:Nat} (hN:∀l∈N,∀j∈l,j < N.length) (h1:1≤N.length) (h:Rb N b k):k < N.length:=by
 cases h with
 | zero h=>exact h1
 | step _ e hj _=>exact hN _ (kD e) _ hj
theorem Rb.around {N:List (List Nat)} {j k:Nat} (hj:¬Rb N none j) (h:Rb N none k):Rb N (some j) k:=by
 induction h with
 | zero h=>exact .zero fun z=>hj (by cases z;exact .zero nofun)
 | step h1 e hl _ ih=>exact .step ih e hl fun z=>hj (by cases z;exact .step h1 e hl nofun)
theorem Rb.closed {N:List (List Nat)} {b:Option Nat} {C:Nat→Prop} (h0:C 0∨b=some 0) (hs:∀i l,C i→N[i]?=some l→∀j∈l,C j∨b=some j) {k:Nat} (h:Rb N b k):C k:=by
 induction h with
 | zero h=>exact h0.resolve_right h
 | step _ e hj hb ih=>exact (hs _ _ ih e _ hj).resolve_right hb
theorem z7Y {α β:Type} [BEq α] [LawfulBEq α] {x:α} {l:List (α × β)} (h:x∈l.map Prod.fst):∃c,l.lookup x=some c:=by
 induction l with
 | nil=>cases h
 | cons p t ih=>
  obtain ⟨a,b⟩:=p
  by_cases e:x=a
  ·subst e
   exact ⟨b,by simp [List.lookup]⟩
  ·obtain ⟨c,hc⟩:=ih (by simpa [e] using h)
   exact ⟨c,by simp [List.lookup,beq_eq_false_iff_ne.mpr e,hc]⟩
theorem qf.mk3 {X:Cx} {N:List Str} {nt:Nat} {ix:List Nat} {scope:Scope} {cl:List (Str × Addr)} {nm:List (Str × NameKind)} {ks:List Str} (clos:closureFor scope X.env=pure cl) (rel:(relabel scope X.env).names=nm)
  (h1:(∀y∈scope.names,y.2≠.cell)∧∀y∈scope.names,y.2=.local→scope.names.lookup y.1=some .local) (kind:scope.kind=.function) (hk:cl.map Prod.fst=ks) (sub:cl.map (fun p=>X.env.cells.lookup p.1)=cl.map fun p=>some p.2)
  (h2:∀y∈nm,(y.2=.cell∨y.2=.free)→y.1∈ks) (len:N.length=nt+ix.length) (f1:ix.map (fun i=>X.N[i]?)=(N.drop nt).map some)
  (f2:(N.drop nt).map (fun x=>(X.env.kindOf x,nm.lookup x))=(N.drop nt).map fun _=>(some .cell,some .cell)) (f3:(N.drop nt).map (fun x=>X.env.cells.lookup x)=(N.drop nt).map fun x=>cl.lookup x):qf X N nt ix scope cl where
 clos:=clos
 nocell:=h1.1
 kind:=kind
 names:=h1.2
 sub:=fun x c e=>by
  have:=List.map_inj_left.mp sub _ (PySem.mem_of_lookup e)
  exact this
 has:=fun x h=>by
  rw [rel] at h
  refine z7Y (hk▸?_)
  rcases h with h | h
  ·exact h2 _ (PySem.mem_of_lookup h) (.inl rfl)
  ·exact h2 _ (PySem.mem_of_lookup h) (.inr rfl)
 len:=len
 free:=fun j x e=>by
  have hm:(N.drop nt)[j]?=some x:=by rw [List.getElem?_drop];exact e
  have hx:=kD hm
  have g:=congrArg (·[j]?) f1
  simp only [List.getElem?_map,hm,Option.map_some] at g
  obtain ⟨i,hi,g⟩:=Option.map_eq_some_iff.mp g
  have k:=List.map_inj_left.mp f2 _ hx
  injection k with k1 k2
  refine ⟨i,hi,g,k1,by rw [rel];exact k2,fun c h=>?_⟩
  rw [←List.map_inj_left.mp f3 _ hx]
  exact h
end My
namespace L2
open PySem PySem.Spec PyProof.Rows
theorem z2A:Slot "list_iterator" "__next__" "list_iterator.__next__":=
 .of (owner:="list_iterator") (n:="__next__") (by rw [typeLookup_type,builtinLookup_eq_fast];kernel_rfl) (by trivial) (by trivial) (by trivial) (by first | exact .inl (by trivial) | exact .inr (by trivial)) (by rw [isSubtype_type];kernel_rfl)
theorem z4P:entryFor table "list_iterator.__next__"=some Builtin.«list_iterator.__next__»:=entryFor_of_tree (by kernel_rfl)
theorem z6t (a:Value):argsOk "list_iterator.__next__" ⟨[a],[]⟩:=by unfold argsOk;kernel_rfl
section
variable {prog:Program} {w:World} {A:Around} {E:Value→Shared→Prop} {s:Shared}
theorem z3Y {M:Model} {a:Addr} {Q:Option Obj→Shared→Prop} (h:Q (s.heap.get? a) s):wpAny M A (loadIfAlive a) Q E s:=fun _ _ _=>h
theorem z74 {it t:Addr} {i:Nat} {its:Array Value} {Q:Value→Shared→Prop} (hh:A.handled=none) (hit:s.heap.IsListIter it t i) (ht:s.heap.IsList t its)
  (hQ:∀x h',its[i]?=some x→h'.IsListIter it t (i+1)→Heap.SameBut it s.heap h'→Q x { s with heap:=h' })
  (hE:∀h' e,its[i]?=none→Heap.ExtBut it s.heap h'→(∃o,h'.get? e=some o∧o.cls=.type "StopIteration")→E (.ref e) { s with heap:=h' }):wpAny (model prog w) A (Builtin.SmallTypes.nextOf (.ref it)) Q E s:=by
 obtain ⟨oi,gi,ci,di⟩:=id hit
 obtain ⟨ot,gt,_,nt,dt⟩:=ht
 unfold Builtin.SmallTypes.nextOf
 have T:s.TypeIs (.ref it) "list_iterator":=⟨oi,gi,ci⟩
 refine wpAny_bind (wpAny_callSpecial?_slot (name:=Str.ofString "__next__") T z2A (wpAny_call_entry z2A T z4P (show wpAny _ _ (field (.ref it) 0 >>= _) _ _ s from wpAny_bind (wpAny_field gi di (x:=.ref t) rfl ?_)) (z6t _)))
 show wpAny _ _ (if (Value.ref t == Value.none)=true then _ else _) _ _ s
 rw [kq (by exact ka)]
 refine (show wpAny _ _ (field (.ref it) 1 >>= _) _ _ s from wpAny_bind (wpAny_field gi di (x:=.int i 0) rfl (show wpAny _ _ (seqItems? (.ref t) >>= _) _ _ s from wpAny_bind (wpAny_seqItems gt dt ?_))))
 cases hx:its[i]? with
 | some x=>
  simp only [kW,hx]
  have new:=hQ x (s.heap.update it (Obj.mapFields fun fs=>fs.setIfInBounds 1 (rawInt ((i:Int)+1)))) hx ⟨_,Heap.get?_update_self _ gi (Obj.isFreed_of_fields (Obj.data_mapFields di _)),(Obj.cls_mapFields ..).trans ci,by rw [Obj.data_mapFields di];rfl⟩ (Heap.SameBut.update ..)
  exact wpAny_bind (wpAny_setField gi di (by simp) (wpAny_pure ⟨x,rfl,wpAny_pure new⟩))
 | none=>
  simp only [kW,hx]
  refine wpAny_bind (wpAny_rule (wpAny_bind (wpAny_setField gi di (by simp) (show wpAny _ _ (newExc (.type "StopIteration") [] >>= _) _ _ _ from wpAny_bind ?_))))
  simp only [newExc,newTuple]
  refine wpAny_bind (wpAny_newObj_type (wpAny_bind (m:=firstArgMember _ _) (wpAny_of_eq (a:=Value.none) (by first | rfl | (simp only [firstArgMember];rfl)) (wpAny_newObj_type ?_ (by size_fits)))) (by size_fits))
  simp only [raiseNew]
  refine wpAny_bind (wpAny_handled ?_)
  rw [show A.in1.handled=none from hh]
  exact wpAny_bind (wpAny_pure (wpAny_throw (hE _ _ hx (((Heap.SameBut.update ..).extBut.push _).push _) ⟨_,Heap.get?_push_size _ rfl,rfl⟩)))
end
end L2
namespace L2
open PySem PySem.Spec PyProof.Rows
abbrev ZL (h:Heap) (z TI TO a0:Addr) (b:Bool):Prop:=h.get? z=some { cls:=.type "zip",data:=.fields #[rawInt a0,.bool b,.bool false,.ref TI,.ref TO] }
section
variable {prog:Program} {w:World} {A:Around} {E:Value→Shared→Prop} {s:Shared}
def Zu (h h':Heap) (z i1 i2:Addr):Prop:=∀c o,c≠z→c≠i1→c≠i2→h.get? c=some o→h'.get? c=some o
theorem z0d {z TI TO a0:Addr} {b0:Bool} {Q:Bool→Shared→Prop} (hz:ZL s.heap z TI TO a0 b0) (ha:∃o,s.heap.get? a0=some o) (hQ:∀ha,ZL ha z TI TO a0 true→Heap.SameBut z s.heap ha→Q false { s with heap:=ha }):
  wpAny (model prog w) A (Builtin.SmallTypes.ownedTupleIsFree (.ref z)) Q E s:=by
 unfold Builtin.SmallTypes.ownedTupleIsFree
 refine wpAny_bind (wpAny_field hz rfl (x:=rawInt a0) rfl (show wpAny _ _ (loadIfAlive a0 >>= _) _ _ _ from wpAny_bind (z3Y ?_)))
 obtain ⟨oa,hoa⟩:=ha
 rw [hoa]
 show wpAny _ _ (field (.ref z) 1 >>= _) _ _ _
 refine wpAny_bind (wpAny_field hz rfl (x:=.bool b0) rfl ?_)
 cases b0 with
 | true=>exact wpAny_pure (hQ s.heap hz (.refl ..))
 | false=>exact wpAny_bind (wpAny_setField_rec hz (by simp) fun hm zm sm=>wpAny_pure (hQ hm zm sm))
theorem z2c {z TI TO i1 i2 l1 l2 a0:Addr} {b0:Bool} {k:Nat} {xs ys:Array Value} {Q:Value→Shared→Prop} (hh:A.handled=none) (D:ZipApart z TI TO i1 i2 l1 l2)
  (hz:ZL s.heap z TI TO a0 b0) (ha:∃o,s.heap.get? a0=some o) (hTI:IsPair s.heap TI (.ref i1) (.ref i2)) (h1:s.heap.IsListIter i1 l1 k) (h2:s.heap.IsListIter i2 l2 k) (t1:s.heap.IsList l1 xs) (t2:s.heap.IsList l2 ys)
  (hQ:∀x y h',xs[k]?=some x→ys[k]?=some y→ZL h' z TI TO a0 true→h'.IsListIter i1 l1 (k+1)→h'.IsListIter i2 l2 (k+1)→IsPair h' s.heap.objs.size x y→Zu s.heap h' z i1 i2→h'.objs.size=s.heap.objs.size+1→Q (.ref s.heap.objs.size) { s with heap:=h' })
  (hE:∀h' e,(xs[k]?=none∨ys[k]?=none)→Zu s.heap h' z i1 i2→(∃o,h'.get? e=some o∧o.cls=.type "StopIteration")→E (.ref e) { s with heap:=h' }):
  wpAny (model prog w) A (Builtin.«zip.__next__» ⟨[.ref z],[]⟩) (fun fin s'=>∃v,fin=.done (.ret v)∧Q v s') E s:=by
 refine (show wpAny _ _ (field (.ref z) 2 >>= _) _ _ _ from wpAny_bind (wpAny_field hz rfl (x:=.bool false) rfl (show wpAny _ _ (field (.ref z) 3 >>= _) _ _ _ from wpAny_bind (wpAny_field hz rfl (x:=.ref TI) rfl (wpAny_bind (wpAny_seqItems hTI rfl (show wpAny _ _ (Builtin.SmallTypes.ownedTupleIsFree (.ref z) >>= _) _ _ _ from wpAny_bind ?_)))))))
 refine z0d hz ha fun ha za sa=>?_
 dsimp only
 rw [kq ka]
 rw [←Array.forIn_toList]
 simp only [List.forIn_cons,List.forIn_nil]
 refine wpAny_bind (wpAny_bind (wpAny_bind (wpAny_holding (show wpAny _ _ (Builtin.SmallTypes.nextOf _ >>= _) _ _ _ from wpAny_bind (z74 hh (h1.extBut sa.extBut D.i1z) (t1.extBut sa.extBut D.l1z) (fun x hb hx hib sb=>wpAny_pure ?_) (fun hb e hx sb he=>?_))))))
 ·refine wpAny_pure (wpAny_bind (wpAny_bind (wpAny_holding (show wpAny _ _ (Builtin.SmallTypes.nextOf _ >>= _) _ _ _ from wpAny_bind (z74 hh ((h2.extBut sa.extBut D.i2z).extBut sb.extBut D.i12.symm) ((t2.extBut sa.extBut D.l2z).extBut sb.extBut D.l2i1) (fun y hd hy hid sd=>wpAny_pure ?_) (fun hd e hy sd he=>?_))))))
  ·refine wpAny_pure (wpAny_pure ?_)
   refine wpAny_bind (wpAny_newTuple ?_ (show 2≤sizeLine by decide))
   have size:hd.objs.size=s.heap.objs.size:=by rw [sd.1,sb.1,sa.1]
   have zd:ZL hd z TI TO a0 true:=sd.extBut _ _ D.i2z.symm (sb.extBut _ _ D.i1z.symm za)
   have kd:Zu s.heap hd z i1 i2:=fun c o c1 c3 c4 e=>sd.extBut _ _ c4 (sb.extBut _ _ c3 (sa.extBut _ _ c1 e))
   have i1d:hd.IsListIter i1 l1 (k+1):=hib.extBut sd.extBut D.i12
   have up:∀c o,hd.get? c=some o→(hd.push { cls:=.type "tuple",data:=.seq #[x,y] }).get? c=some o:=fun c o e=>Heap.get?_push_of_some _ e
   have pn:IsPair (hd.push { cls:=.type "tuple",data:=.seq #[x,y] }) hd.objs.size x y:=Heap.get?_push_size _ rfl
   refine wpAny_pure ⟨_,rfl,?_⟩
   show Q (.ref hd.objs.size) _
   rw [size] at pn ⊢
   exact hQ x y _ hx hy (up _ _ zd) (i1d.at fun o e=>up _ o e) (hid.at fun o e=>up _ o e) pn (fun c o c1 c2 c3 e=>up c o (kd c o c1 c2 c3 e)) (by rw [Heap.size_push,size])
  ·exact hE hd e (.inr hy) (fun c o c1 c3 c4 q=>sd _ _ c4 (sb.extBut _ _ c3 (sa.extBut _ _ c1 q))) he
 ·exact hE hb e (.inl hx) (fun c o c1 c3 _ q=>sb _ _ c3 (sa.extBut _ _ c1 q)) he
end
end L2
namespace L2
open PySem PySem.Spec PyProof.Rows
theorem Inv.grown {X:Cx} {pins:List (Addr × Obj)} {σ:St} {H H':Hp} {s:Shared} {h':Heap} {t':Nat} (I:Inv X pins σ H s) (k:∀b o,s.heap.get? b=some o→h'.get? b=some o) (hold:∀b,b < s.heap.objs.size→H' b=H b)
  (hnew:∀b o,s.heap.objs.size≤b→H' b=some o→qi X.prog X.w H' h' b o):Inv X pins σ H' { s with heap:=h',toks:=t' }:=by
 have old:∀b u,H b=some u→H' b=some u:=fun b u q=>(hold b (I.hok.lt q)).trans q
 refine I.un (t':=t') ⟨fun b u q _ _ _=>k b u q,fun b u q _ _ _=>⟨u.slots,k b u q⟩,fun b u q n _=>(hold b (Heap.lt_size q)).trans n,fun b u q _=>⟨u,k b u q⟩,fun b xs q=>old _ _ q,fun b u xs q=>old _ _ q,fun b ps q=>⟨#[],by rw [old _ _ q];simp⟩⟩ fun b u q=>?_
 by_cases hb:b < s.heap.objs.size
 ·rw [hold b hb] at q
  exact (I.hok b u q).stay (fun c v _ z=>k c v z) (fun c z=>old _ _ z) fun c xs z=>old _ _ z
 ·exact hnew b u (Nat.le_of_not_lt hb) q
section
variable {prog:Program} {w:World} {A:Around} {E:Value→Shared→Prop} {s:Shared}
theorem z0S {z TI TO i1 i2 l1 l2 a0:Addr} {b0:Bool} {k:Nat} {xs ys:Array Value} {Q:Option Value→Shared→Prop} (hh:A.handled=none) (D:ZipApart z TI TO i1 i2 l1 l2)
  (hz:ZL s.heap z TI TO a0 b0) (ha:∃o,s.heap.get? a0=some o) (hTI:IsPair s.heap TI (.ref i1) (.ref i2)) (h1:s.heap.IsListIter i1 l1 k) (h2:s.heap.IsListIter i2 l2 k) (t1:s.heap.IsList l1 xs) (t2:s.heap.IsList l2 ys)
  (hQ:∀x y h',xs[k]?=some x→ys[k]?=some y→ZL h' z TI TO a0 true→h'.IsListIter i1 l1 (k+1)→h'.IsListIter i2 l2 (k+1)→IsPair h' s.heap.objs.size x y→Zu s.heap h' z i1 i2→h'.objs.size=s.heap.objs.size+1→Q (some (.ref s.heap.objs.size)) { s with heap:=h' })
  (hE:∀h',(xs[k]?=none∨ys[k]?=none)→Zu s.heap h' z i1 i2→Q none { s with heap:=h' }):wpAny (model prog w) A (pyNext (.ref z)) Q E s:=by
 have T:s.TypeIs (.ref z) "zip":=⟨_,hz,rfl⟩
 unfold pyNext
 refine wpAny_bind (wpAny_attempt (wpAny_callSpecial?_slot (name:=Str.ofString "__next__") T F.slot_zip_next (wpAny_call_entry F.slot_zip_next T F.entry_zip_next (z2c (show _=none from hh) D hz ha hTI h1 h2 t1 t2 (fun x y h' e1 e2 a1 a2 a3 a4 a5 a6=>wpAny_pure (hQ x y h' e1 e2 a1 a2 a3 a4 a5 a6)) fun h' e en hk he=>?_) (F.args_zip_next_1 _))))
 obtain ⟨o,ho,hc⟩:=he
 exact wpAny_bind (wpAny_isInstance (T:="StopIteration") (b:=true) ⟨o,ho,hc⟩ isSubtype_stop (wpAny_pure (hE _ en hk)))
noncomputable def lstO (acc:Array Value) (c:Nat):Obj:={ cls:=.type "list",data:=.seq acc c }
def z0H (h:Heap) (qs:List Addr) (xs ys:Array Value) (i:Nat):Prop:=∀j q,qs[j]?=some q→∃x y,xs[i+j]?=some x∧ys[i+j]?=some y∧IsPair h q x y
theorem JA {S:Addr} {acc:Array Value} {c:Nat} {v:Value} {Q:Unit→Shared→Prop} (hS:s.heap.get? S=some (lstO acc c)) (hz:acc.size < sizeLine)
  (q:∀h' c',h'.get? S=some (lstO (acc.push v) c')→Heap.SameBut S s.heap h'→Q () { s with heap:=h' }):wpAny (model prog w) A (Builtin.List.listUpdate (.ref S) (·.push v)) Q E s:=by
 show wpAny _ _ (updateSeq S (·.push v)) _ _ _
 exact wpAny_updateSeq (o:=lstO acc c) hS rfl (q _ _ (Heap.get?_update_self (Obj.mapSeq (·.push v)) hS rfl) (Heap.SameBut.update ..)) (Nat.le_of_lt hz) (by rw [Array.size_push];lia)
theorem z3V {z TI TO i1 i2 l1 l2 a0 S:Addr} {res:Value} {xs ys:Array Value} {R:Result→Shared→Prop} (hh:A.handled=none) (D:ZipApart z TI TO i1 i2 l1 l2) (hxy:xs.size=ys.size) (hS:S∉[z,TI,TO,i1,i2,l1,l2,a0]) (hA0:a0∉[z,i1,i2]) (hn:xs.size < 100000):
  ∀(m i:Nat) (s:Shared) (b0:Bool) (acc:Array Value) (c:Nat),i+m=xs.size→acc.size=i→ZL s.heap z TI TO a0 b0→(∃o,s.heap.get? a0=some o)→IsPair s.heap TI (.ref i1) (.ref i2)→s.heap.IsListIter i1 l1 i→s.heap.IsListIter i2 l2 i→s.heap.IsList l1 xs→s.heap.IsList l2 ys→s.heap.get? S=some (lstO acc c)→
   (∀h' qs acc' c',h'.get? S=some (lstO acc' c')→acc'.toList=acc.toList++qs.map Value.ref→qs.length=m→qs.Pairwise (· < ·)→(∀q∈qs,s.heap.objs.size≤q)→z0H h' qs xs ys i→(∀b o,b∉[z,i1,i2,S]→s.heap.get? b=some o→h'.get? b=some o)→R (.ok (.ret res)) { s with heap:=h' })→
   codeAny (model prog w) A (.builtin "list.extend.loop" ⟨[.ref S,.ref z,res],[]⟩) R s:=by
 simp only [ky,km,or_false,not_or] at hS hA0
 obtain ⟨s1,s2,s3,s4,s5,s6,s7,s8⟩:=hS
 intro m
 induction m with
 | zero=>
  intro i s b0 acc c hi ha hz hal hTI h1 h2 t1 t2 hL q
  refine codeAny_builtin F.entry_extend_loop ?_
  rw [Around.under_plainId F.plain_extend_loop _]
  show wpAny _ _ (pyNext (.ref z) >>= _) _ _ _
  refine wpAny_bind (z0S (by simpa using hh) D hz hal hTI h1 h2 t1 t2 (fun x y h' e1=>?_) fun h' _ hk=>?_)
  ·rw [Array.getElem?_eq_none (by lia)] at e1
   cases e1
  ·refine wpAny_pure ?_
   exact q h' [] acc c (hk S _ s1 s4 s5 hL) (by simp) rfl .nil (fun q hq=>by cases hq) (fun j q e=>by simp at e) fun b o hb e=>by
    simp only [ky,km,or_false,not_or] at hb
    exact hk b o hb.1 hb.2.1 hb.2.2.1 e
 | succ m ih=>
  intro i s b0 acc c hi ha hz hal hTI h1 h2 t1 t2 hL q
  refine codeAny_builtin F.entry_extend_loop ?_
  rw [Around.under_plainId F.plain_extend_loop _]
  show wpAny _ _ (pyNext (.ref z) >>= _) _ _ _
  refine wpAny_bind (z0S (by simpa using hh) D hz hal hTI h1 h2 t1 t2 (fun x y h' ex ey gz g1 g2 gp hk hsz=>?_) fun h' hor hk=>?_)
  ·have hL':=hk S _ s1 s4 s5 hL
   refine wpAny_bind (JA (s:={ s with heap:=h' }) hL' (by rw [sizeLine_eq];lia) fun h2' c' hL2 sb=>?_)
   refine wpAny_pure ⟨plainId_quiet F.plain_extend_loop _,?_⟩
   obtain ⟨oa,hoa⟩:=hal
   have up:∀b o,b≠S→h'.get? b=some o→h2'.get? b=some o:=fun b o hb e=>(sb.2 b hb).trans e
   have new:s.heap.objs.size≠S:=Nat.ne_of_gt (Heap.lt_size hL)
   refine ih (i+1) { s with heap:=h2' } true (acc.push (.ref s.heap.objs.size)) c' (by lia) (by rw [Array.size_push,ha]) (up _ _ (Ne.symm s1) gz) ⟨oa,up _ _ (Ne.symm s8) (hk a0 oa hA0.1 hA0.2.1 hA0.2.2 hoa)⟩ (up _ _ (Ne.symm s2) (hk _ _ D.TIz D.TIi1 D.TIi2 hTI)) (g1.at fun o e=>up _ _ (Ne.symm s4) e) (g2.at fun o e=>up _ _ (Ne.symm s5) e) ?_ ?_ hL2 fun h3 qs acc' c3 e1 e2 e3 e4 e5 e6 e7=>?_
   ·obtain ⟨o,e,r⟩:=t1
    exact ⟨o,up _ _ (Ne.symm s6) (hk _ _ D.l1z D.l1i1 D.l1i2 e),r⟩
   ·obtain ⟨o,e,r⟩:=t2
    exact ⟨o,up _ _ (Ne.symm s7) (hk _ _ D.l2z D.l2i1 D.l2i2 e),r⟩
   ·have sz2:h2'.objs.size=s.heap.objs.size+1:=by rw [sb.1,hsz]
    have gp3:IsPair h3 s.heap.objs.size x y:=e7 _ _ (by
     simp only [ky,km,or_false,not_or]
     have lz:=Heap.lt_size hz
     obtain ⟨o1,q1,_⟩:=h1
     obtain ⟨o2,q2,_⟩:=h2
     have l1:=Heap.lt_size q1
     have l2:=Heap.lt_size q2
     exact ⟨Nat.ne_of_gt lz,Nat.ne_of_gt l1,Nat.ne_of_gt l2,new⟩) (up _ _ new gp)
    refine q h3 (s.heap.objs.size :: qs) acc' c3 e1 (by rw [e2];simp) (by simp [e3]) (.cons (fun q hq=>?_) e4) (fun q hq=>?_) (fun j q e=>?_) fun b o hb e=>?_
    ·have:=e5 q hq
     rw [sz2] at this
     exact this
    ·rcases ky.mp hq with rfl | hq
     ·exact kc _
     ·have:=e5 q hq
      rw [sz2] at this
      exact Nat.le_of_succ_le this
    ·cases j with
     | zero=>
      cases e
      exact ⟨x,y,ex,ey,gp3⟩
     | succ j=>
      obtain ⟨x',y',a1,a2,a3⟩:=e6 j q (by simpa using e)
      exact ⟨x',y',by rw [←a1];congr 1;lia,by rw [←a2];congr 1;lia,a3⟩
    ·have hb':=hb
     simp only [ky,km,or_false,not_or] at hb'
     exact e7 b o hb (up _ _ hb'.2.2.2 (hk b o hb'.1 hb'.2.1 hb'.2.2.1 e))
  ·exfalso
   rcases hor with z | z
   ·have:=Array.getElem?_eq_none_iff.mp z
    lia
   ·have:=Array.getElem?_eq_none_iff.mp z
    lia
end
end L2
namespace L2
open PySem PySem.Spec PyProof.Rows
theorem z2b:typeLookup (.type "zip") "__len__"=pure none:=by rw [typeLookup_type,builtinLookup_eq_fast];kernel_rfl
theorem z1q:typeLookup (.type "zip") "__length_hint__"=pure none:=by rw [typeLookup_type,builtinLookup_eq_fast];kernel_rfl
section
variable {prog:Program} {w:World} {A:Around} {E:Value→Shared→Prop} {s:Shared}
theorem z3W {z:Addr} {Q:Bool→Shared→Prop} (hT:s.TypeIs (.ref z) "zip") (h:Q true s):wpAny (model prog w) A (Builtin.List.listLengthHint (.ref z)) Q E s:=by
 unfold Builtin.List.listLengthHint
 refine wpAny_bind (wpAny_specialOf hT z2b ?_)
 show wpAny _ _ (specialOf (.ref z) (Str.ofString "__length_hint__") >>= _) _ _ _
 refine wpAny_bind (wpAny_specialOf hT z1q ?_)
 exact wpAny_pure h
theorem z2d {z TI TO i1 i2 l1 l2 S:Addr} {res:Value} {xs ys:Array Value} {R:Result→Shared→Prop} (hh:A.handled=none) (D:ZipApart z TI TO i1 i2 l1 l2) (hxy:xs.size=ys.size) (hS:S∉[z,TI,TO,i1,i2,l1,l2]) (hn:xs.size < 100000) (hn1:1≤xs.size) {a b:Value} {c:Nat}
  (hz:IsZip s.heap z TI TO .none) (hTI:IsPair s.heap TI (.ref i1) (.ref i2)) (hTO:IsPair s.heap TO a b) (h1:s.heap.IsListIter i1 l1 0) (h2:s.heap.IsListIter i2 l2 0) (t1:s.heap.IsList l1 xs) (t2:s.heap.IsList l2 ys) (hL:s.heap.get? S=some (lstO #[] c))
  (q:∀h' qs acc' c',h'.get? S=some (lstO acc' c')→acc'.toList=qs.map Value.ref→qs.length=xs.size→qs.Pairwise (· < ·)→(∀q∈qs,s.heap.objs.size≤q)→z0H h' qs xs ys 0→(∀b o,b∉[z,TO,i1,i2,S]→s.heap.get? b=some o→h'.get? b=some o)→R (.ok (.ret res)) { s with heap:=h' }):
  codeAny (model prog w) A (.builtin "list.extend.loop" ⟨[.ref S,.ref z,res],[]⟩) R s:=by
 have hS':=hS
 simp only [ky,km,or_false,not_or] at hS'
 obtain ⟨s1,s2,s3,s4,s5,s6,s7⟩:=hS'
 refine codeAny_builtin F.entry_extend_loop ?_
 rw [Around.under_plainId F.plain_extend_loop _]
 show wpAny _ _ (pyNext (.ref z) >>= _) _ _ _
 have ex:xs[0]?=some xs[0]:=Array.getElem?_eq_getElem hn1
 have ey:ys[0]?=some (ys[0]'(by lia)):=Array.getElem?_eq_getElem (by lia)
 refine wpAny_bind (wpAny_pyNext_zip_item D hz hTI hTO h1 h2 t1 t2 ex ey fun h' gz gTO g1 g2 gp hsz hk=>?_)
 have lz:=Heap.lt_size hz
 have lTI:=Heap.lt_size hTI
 have lTO:=Heap.lt_size hTO
 have li1:i1 < s.heap.objs.size:=by obtain ⟨o,e,_⟩:=h1;exact Heap.lt_size e
 have li2:i2 < s.heap.objs.size:=by obtain ⟨o,e,_⟩:=h2;exact Heap.lt_size e
 have ll1:l1 < s.heap.objs.size:=by obtain ⟨o,e,_⟩:=t1;exact Heap.lt_size e
 have ll2:l2 < s.heap.objs.size:=by obtain ⟨o,e,_⟩:=t2;exact Heap.lt_size e
 have lS:=Heap.lt_size hL
 have hL':=hk S _ s1 s3 s4 s5 hL
 refine wpAny_bind (JA (s:={ s with heap:=h' }) hL' (by rw [sizeLine_eq];decide) fun h2' c' hL2 sb=>?_)
 refine wpAny_pure ⟨plainId_quiet F.plain_extend_loop _,?_⟩
 have up:∀b o,b≠S→h'.get? b=some o→h2'.get? b=some o:=fun b o hb e=>(sb.2 b hb).trans e
 have new:s.heap.objs.size≠S:=Nat.ne_of_gt lS
 have gp2:=up _ _ new gp
 refine z3V (a0:=s.heap.objs.size) hh D hxy ?_ ?_ hn (xs.size - 1) 1 { s with heap:=h2' } false _ c' (by lia) rfl (up _ _ (Ne.symm s1) gz) ⟨_,gp2⟩ (up _ _ (Ne.symm s2) (hk _ _ D.TIz D.TITO D.TIi1 D.TIi2 hTI)) (g1.at fun o e=>up _ _ (Ne.symm s4) e) (g2.at fun o e=>up _ _ (Ne.symm s5) e) ?_ ?_ hL2 fun h3 qs acc' c3 e1 e2 e3 e4 e5 e6 e7=>?_
 ·simp only [ky,km,or_false,not_or]
  exact ⟨s1,s2,s3,s4,s5,s6,s7,Nat.ne_of_lt lS⟩
 ·simp only [ky,km,or_false,not_or]
  exact ⟨Nat.ne_of_gt lz,Nat.ne_of_gt li1,Nat.ne_of_gt li2⟩
 ·obtain ⟨o,e,r⟩:=t1
  exact ⟨o,up _ _ (Ne.symm s6) (hk _ _ D.l1z D.l1TO D.l1i1 D.l1i2 e),r⟩
 ·obtain ⟨o,e,r⟩:=t2
  exact ⟨o,up _ _ (Ne.symm s7) (hk _ _ D.l2z D.l2TO D.l2i1 D.l2i2 e),r⟩
 ·have sz2:h2'.objs.size=s.heap.objs.size+1:=by rw [sb.1,hsz]
  have gp3:IsPair h3 s.heap.objs.size _ _:=e7 _ _ (by
   simp only [ky,km,or_false,not_or]
   exact ⟨Nat.ne_of_gt lz,Nat.ne_of_gt li1,Nat.ne_of_gt li2,new⟩) gp2
  refine q h3 (s.heap.objs.size :: qs) acc' c3 e1 (by rw [e2];simp) (by rw [kL,e3];lia) (.cons (fun q hq=>?_) e4) (fun q hq=>?_) (fun j q e=>?_) fun b o hb e=>?_
  ·have:=e5 q hq
   rw [sz2] at this
   exact this
  ·rcases ky.mp hq with rfl | hq
   ·exact kc _
   ·have:=e5 q hq
    rw [sz2] at this
    exact Nat.le_of_succ_le this
  ·cases j with
   | zero=>
    cases e
    exact ⟨_,_,ex,ey,gp3⟩
   | succ j=>
    obtain ⟨x',y',a1,a2,a3⟩:=e6 j q (by simpa using e)
    exact ⟨x',y',by rw [←a1];congr 1;lia,by rw [←a2];congr 1;lia,a3⟩
  ·have hb':=hb
   simp only [ky,km,or_false,not_or] at hb'
   exact e7 b o (by simp only [ky,km,or_false,not_or];exact ⟨hb'.1,hb'.2.2.1,hb'.2.2.2.1,hb'.2.2.2.2⟩) (up _ _ hb'.2.2.2.2 (hk b o hb'.1 hb'.2.1 hb'.2.2.1 hb'.2.2.2.1 e))
theorem Ji {z TI TO i1 i2 l1 l2:Addr} {xs ys:Array Value} {Q:Value→Shared→Prop} (hh:A.handled=none) (D:ZipApart z TI TO i1 i2 l1 l2) (hxy:xs.size=ys.size) (hn:xs.size < 100000) (hn1:1≤xs.size) {a b:Value}
  (hz:IsZip s.heap z TI TO .none) (hTI:IsPair s.heap TI (.ref i1) (.ref i2)) (hTO:IsPair s.heap TO a b) (h1:s.heap.IsListIter i1 l1 0) (h2:s.heap.IsListIter i2 l2 0) (t1:s.heap.IsList l1 xs) (t2:s.heap.IsList l2 ys)
  (q:∀h' qs acc' c',h'.get? s.heap.objs.size=some (lstO acc' c')→acc'.toList=qs.map Value.ref→qs.length=xs.size→qs.Pairwise (· < ·)→(∀q∈qs,s.heap.objs.size < q)→z0H h' qs xs ys 0→(∀b o,b∉[z,TO,i1,i2]→s.heap.get? b=some o→h'.get? b=some o)→Q (.ref s.heap.objs.size) { s with heap:=h' }):
  wpAny (model prog w) A (call (.type "list") [.ref z]) Q E s:=by
 obtain ⟨c,tl,hmro⟩:=PySem.F.called_list.mro
 have hmade:=PySem.F.called_list.made
 have hsub:=PySem.F.called_list.sub
 refine wpAny_call (codeAny_of_tree (show wpAny _ _ (callAny (.type "list") _) _ _ _ from wpAny_pure ⟨Code.quiet_builtin _ (by trivial),codeAny_builtin PySem.F.entry_type_call ?_⟩))
 rw [Around.under_plain (weight_type_call_type "list" [.ref z] []) rfl]
 have h1':=PySem.F.called_list.notType
 have h2':=PySem.F.called_list.canCreate
 have h3':=PySem.F.typeCall_list_1 (.ref z)
 repeat (any_goals (first | assumption | wp_step))
 refine codeAny_mono (code_list_new (.ref z) (E:=E) (Q₁:=fun obj s₁=>obj=.ref s.heap.objs.size∧s₁={ s with heap:=s.heap.push { cls:=.type "list",data:=.seq #[] } }) ⟨rfl,rfl⟩) fun r s₁ hr=>?_
 cases r with
 | error e=>exact hr
 | ok fl=>
  cases fl with
  | ret obj=>
   obtain ⟨rfl,rfl⟩:=hr
   have hS:(s.heap.push { cls:=.type "list",data:=.seq #[] }).get? s.heap.objs.size=some { cls:=.type "list",data:=.seq #[] }:=Heap.get?_push_size _ rfl
   have hT:Shared.TypeIs { s with heap:=s.heap.push { cls:=.type "list",data:=.seq #[] } } (.ref s.heap.objs.size) "list":=⟨_,hS,rfl⟩
   have hli:=PySem.F.called_list.init.lookup
   have hbi:=PySem.F.called_list.init.bind (.ref s.heap.objs.size)
   repeat (any_goals (first | assumption | wp_step))
   refine codeAny_mono (codeAny_call_builtin (R:=wants (fun r s₂=>r=.none∧Q (.ref s.heap.objs.size) s₂) E) PySem.F.called_list.init.plain PySem.F.entry_list_init (PySem.F.slot_list_init.check _ _ _ _ _ _ _ _ hT (PySem.F.args_list_init_2 _ _) ?_)) fun r₂ s₂ hr₂=>?_
   ·have push:∀b o,s.heap.get? b=some o→(s.heap.push { cls:=.type "list",data:=.seq #[] }).get? b=some o:=fun b o e=>Heap.get?_push_of_some _ e
    have old:∀b o,s.heap.get? b=some o→b≠s.heap.objs.size:=fun b o e=>Nat.ne_of_lt (Heap.lt_size e)
    show wpAny _ _ (Builtin.List.listItems (.ref s.heap.objs.size) >>= _) _ _ _
    unfold Builtin.List.listItems
    refine wpAny_bind (wpAny_bind (wpAny_seqItems hS rfl (wpAny_pure ?_)))
    refine wpAny_bind (show wpAny _ _ (updateSeq s.heap.objs.size fun _=>#[]) _ _ _ from wpAny_updateSeq hS rfl ?_)
    have hS1:=Heap.get?_update_self (Obj.mapSeq fun _=>#[]) hS rfl
    have up1:∀b o,b≠s.heap.objs.size→(s.heap.push { cls:=.type "list",data:=.seq #[] }).get? b=some o→((s.heap.push { cls:=.type "list",data:=.seq #[] }).update s.heap.objs.size (Obj.mapSeq fun _=>#[])).get? b=some o:=fun b o hb e=>(Heap.get?_update_other _ _ (Ne.symm hb)).trans e
    generalize hh1:(s.heap.push { cls:=.type "list",data:=.seq #[] }).update s.heap.objs.size (Obj.mapSeq fun _=>#[])=hp1 at hS1 up1 ⊢
    have sz1:hp1.objs.size=s.heap.objs.size+1:=by rw [←hh1,Heap.size_update,Heap.size_push]
    refine wpAny_bind (wpAny_letGo ?_)
    show wpAny _ _ (Builtin.List.listExtendWith (.ref s.heap.objs.size) (.ref z) .none) _ _ _
    unfold Builtin.List.listExtendWith
    have hz1:IsZip hp1 z TI TO .none:=up1 _ _ (old _ _ hz) (push _ _ hz)
    have ty1:Shared.TypeIs { s with heap:=hp1 } (.ref z) "zip":=⟨_,hz1,rfl⟩
    refine wpAny_bind (wpAny_typeOf ty1 ?_)
    have n1:Builtin.List.listSameRef (.ref s.heap.objs.size) (.ref z)=false:=by
     show (s.heap.objs.size == z)=false
     exact beq_eq_false_iff_ne.mpr (Ne.symm (old _ _ hz))
    have n2:(Value.type "zip" == Value.type "list")=false:=by decide
    have n3:(Value.type "zip" == Value.type "tuple")=false:=by decide
    simp only [n1,n2,n3,Bool.or_false,Bool.false_eq_true,if_false]
    refine wpAny_bind (wpAny_pyIter_zip (s:={ s with heap:=hp1 }) hz1 ?_)
    refine wpAny_bind (wpAny_holding (z3W ty1 ?_))
    simp only [Bool.true_or,if_true]
    refine wpAny_bind (wpAny_rule ?_)
    refine wpAny_bind ?_
    show wpAny _ _ (updateSeq s.heap.objs.size (·.push .none) >>= fun _=>updateSeq s.heap.objs.size (·.pop)) _ _ _
    refine wpAny_bind (wpAny_updateSeq (xs:=#[]) hS1 rfl ?_)
    have hS2:=Heap.get?_update_self (Obj.mapSeq (·.push Value.none)) hS1 rfl
    refine wpAny_updateSeq (hz:=by seq_fits) hS2 rfl ?_
    have hS3:=Heap.get?_update_self (Obj.mapSeq (·.pop)) hS2 rfl
    have up2:∀b o,b≠s.heap.objs.size→hp1.get? b=some o→((hp1.update s.heap.objs.size (Obj.mapSeq (·.push Value.none))).update s.heap.objs.size (Obj.mapSeq (·.pop))).get? b=some o:=fun b o hb e=>(Heap.get?_update_other _ _ (Ne.symm hb)).trans ((Heap.get?_update_other _ _ (Ne.symm hb)).trans e)
    have sz2:((hp1.update s.heap.objs.size (Obj.mapSeq (·.push Value.none))).update s.heap.objs.size (Obj.mapSeq (·.pop))).objs.size=s.heap.objs.size+1:=by rw [Heap.size_update,Heap.size_update,sz1]
    generalize (hp1.update s.heap.objs.size (Obj.mapSeq (·.push Value.none))).update s.heap.objs.size (Obj.mapSeq (·.pop))=hp2 at hS3 up2 sz2 ⊢
    have up:∀b o,s.heap.get? b=some o→hp2.get? b=some o:=fun b o e=>up2 _ _ (old _ _ e) (up1 _ _ (old _ _ e) (push _ _ e))
    refine wpAny_pure ⟨plainId_quiet F.plain_extend_loop _,z2d (s:={ s with heap:=hp2 }) (S:=s.heap.objs.size) (by simpa using hh) D hxy ?_ hn hn1 (up _ _ hz) (up _ _ hTI) (up _ _ hTO) (h1.at fun o e=>up _ o e) (h2.at fun o e=>up _ o e) ?_ ?_ hS3 fun h' qs acc' c' e1 e2 e3 e4 e5 e6 e7=>?_⟩
    ·simp only [ky,km,or_false,not_or]
     obtain ⟨o1,q1,_⟩:=h1
     obtain ⟨o2,q2,_⟩:=h2
     obtain ⟨o3,q3,_⟩:=t1
     obtain ⟨o4,q4,_⟩:=t2
     exact ⟨Ne.symm (old _ _ hz),Ne.symm (old _ _ hTI),Ne.symm (old _ _ hTO),Ne.symm (old _ _ q1),Ne.symm (old _ _ q2),Ne.symm (old _ _ q3),Ne.symm (old _ _ q4)⟩
    ·obtain ⟨o,e,r⟩:=t1
     exact ⟨o,up _ _ e,r⟩
    ·obtain ⟨o,e,r⟩:=t2
     exact ⟨o,up _ _ e,r⟩
    ·refine ⟨rfl,q h' qs acc' c' e1 e2 e3 e4 (fun q hq=>?_) e6 fun b o hb e=>?_⟩
     ·have:=e5 q hq
      rw [show ({ s with heap:=hp2 }:Shared).heap.objs.size=s.heap.objs.size+1 from sz2] at this
      exact this
     ·refine e7 b o ?_ (up _ _ e)
      simp only [ky,km,or_false,not_or] at hb ⊢
      exact ⟨hb.1,hb.2.1,hb.2.2.1,hb.2.2.2,old _ _ e⟩
   ·cases r₂ with
    | error e=>exact hr₂
    | ok fl₂=>
     cases fl₂ with
     | ret r=>
      obtain ⟨rfl,hq⟩:=hr₂
      repeat (any_goals (first | assumption | wp_step))
     | _=>exact hr₂.elim
  | _=>exact hr.elim
end
end L2
namespace L2
open PySem PySem.Spec PyProof.Rows
noncomputable def layP (H:Hp):List Addr→List (List V)→Hp
 | p :: ps,t :: ts=>upd (layP H ps ts) p (.tup t)
 | _,_=>H
theorem ZY {H:Hp} {b:Addr}:∀{ps:List Addr} {ts:List (List V)},b∉ps→layP H ps ts b=H b
 | [],_,_=>rfl
 | _ :: _,[],_=>rfl
 | p :: ps,t :: ts,h=>by
  unfold layP
  rw [zg (fun z=>h (by simp [z]))]
  exact ZY fun z=>h (by simp [z])
theorem z33 {H:Hp}:∀{ps:List Addr} {ts:List (List V)},ps.Nodup→ps.length=ts.length→jl (layP H ps ts) ps ts
 | [],[],_,_=>.nil
 | _ :: _,[],_,h=>by cases h
 | [],_ :: _,_,h=>by cases h
 | p :: ps,t :: ts,hn,h=>by
  have hp:=(List.nodup_cons.mp hn).1
  refine .cons (by unfold layP;exact zb) ?_
  have ih:=z33 (H:=H) (List.nodup_cons.mp hn).2 (show ps.length=ts.length by simpa using h)
  refine ji (by simpa using h) fun j a xs ea ex=>?_
  unfold layP
  have hne:a≠p:=fun z=>by subst z;exact hp (kD ea)
  rw [zg hne]
  obtain ⟨xs',e1,e2⟩:=jl.get ih ea
  rw [ex] at e1
  cases e1
  exact e2
theorem z18 {H:Hp} {b:Addr} {o:HO}:∀{ps:List Addr} {ts:List (List V)},ps.Nodup→b∈ps→layP H ps ts b=some o→(∃(j:Nat) (t:List V),ps[j]?=some b∧ts[j]?=some t∧o=.tup t)∨H b=some o
 | p :: ps,[],_,hb,e=>.inr e
 | p :: ps,t :: ts,hn,hb,e=>by
  unfold layP at e
  by_cases hz:b=p
  ·subst hz
   rw [zb] at e
   cases e
   exact .inl ⟨0,t,rfl,rfl,rfl⟩
  ·rw [zg hz] at e
   rcases z18 (List.nodup_cons.mp hn).2 ((ky.mp hb).resolve_left hz) e with ⟨j,t',h1,h2,h3⟩ | h
   ·exact .inl ⟨j+1,t',by simpa using h1,by simpa using h2,h3⟩
   ·exact .inr h
section
variable {X:Cx}
noncomputable def jW (xs ys:List V):List (List V):=List.zipWith (fun x y=>[x,y]) xs ys
theorem QA {xs ys:List V} {j:Nat} {t:List V} (e:(jW xs ys)[j]?=some t):∃x y,xs[j]?=some x∧ys[j]?=some y∧t=[x,y]:=by
 unfold jW at e
 rw [List.getElem?_zipWith] at e
 cases h1:xs[j]? with
 | none=>rw [h1] at e;cases e
 | some x=>
  cases h2:ys[j]? with
  | none=>rw [h1,h2] at e;cases e
  | some y=>
   rw [h1,h2] at e
   cases e
   exact ⟨x,y,rfl,rfl,rfl⟩
def z43 (K:ko) (ta:TA):TE:=fun σ H Q=>ta σ H fun vs H1=>∃a b xs ys,vs=[.ref a,.ref b]∧SqL K H1 a xs∧SqL K H1 b ys∧xs.length=ys.length∧1≤xs.length∧xs.length≤1000∧∀l ps H',Same H1 H'→H1 l=none→H' l=some (.lst (ps.map V.ref))→jl H' ps (jW xs ys)→Q (.ref l) H'
theorem Jy:∀ps:List Addr,Vals (ps.map V.ref) (ps.map Value.ref)
 | []=>.nil
 | _ :: ps=>.cons rfl (Jy ps)
theorem z1B {a b:Expr} {ta:TA} {p p2 pos pos2:Pos} (hc:X.calm=true) (hl:Gl X "list") (hml:X.mg "list"=none) (hg:Gl X "zip") (hm:X.mg "zip"=none) (ha:PA X [a,b] ta)
  (hs:autoParam (starEach [a,b] X.env=[(false,eval a X.env),(false,eval b X.env)]) aR._auto_1) (hsb:autoParam (starEach [b] X.env=[(false,eval b X.env)]) aR._auto_1) (hs2:autoParam (starEach [.Call (.Name "zip" p2) [a,b] [] pos2] X.env=[(false,eval (.Call (.Name "zip" p2) [a,b] [] pos2) X.env)]) aR._auto_1):
  PE X (.Call (.Name "list" p) [.Call (.Name "zip" p2) [a,b] [] pos2] [] pos) (z43 X.K ta):=by
 intro pins s σ H Q I h
 refine wpAny_Call_Name_kw (ZK I hl hml (show bootBuiltins "list"=some (.type "list") by trivial) ?_ (by decide) (by decide))
 refine PyProof.Rows.callWith_type1 ?_ hs2 rfl
 rw [hs2]
 show wpAny _ _ (spliced ((false,eval (.Call (.Name "zip" p2) [a,b] [] pos2) X.env) :: [])) _ _ s
 refine Calls.spliced_cons ?_
 refine Call_ (ZK I hg hm z4T (PyProof.Rows.callWith_type1 (thn (ha pos2 pins s σ H _ I h) fun us s1 ⟨vs,H1,I1,r1,q1⟩=>?_) (by rw [hs,hsb]) (by rw [hsb];rfl)))
 obtain ⟨l1,l2,xs,ys,e,hq1,hq2,hxy,hn1,hn,q⟩:=q1
 subst e
 obtain ⟨u1,u2,rfl,ru1,ru2⟩:=Vals.two r1
 cases ru1
 cases ru2
 obtain ⟨its1,rv1,p1,hz1⟩:=I1.list hq1
 obtain ⟨its2,rv2,p2,hz2⟩:=I1.list hq2
 have lt1:l1 < s1.heap.objs.size:=by obtain ⟨o,ho,_⟩:=p1.isList;exact Heap.lt_size ho
 have lt2:l2 < s1.heap.objs.size:=by obtain ⟨o,ho,_⟩:=p2.isList;exact Heap.lt_size ho
 have le1:=rv1.length
 have le2:=rv2.length
 refine call_zip_2 p1.isList p2.isList fun h' g1 g2 g3 g4 g5 g6 hk=>?_
 refine Calls.spliced_nil ?_
 have D:ZipApart (s1.heap.objs.size+4) (s1.heap.objs.size+2) (s1.heap.objs.size+3) s1.heap.objs.size (s1.heap.objs.size+1) l1 l2:=z2e lt1 lt2
 have il:∀{l:Addr} {zs:Array Value},s1.heap.IsList l zs→h'.IsList l zs:=fun ⟨o,e,r⟩=>⟨o,hk _ _ e,r⟩
 refine Ji (s:={ s1 with heap:=h' }) (I.ok.hd hc) D (by simp;lia) (by simp;lia) (by simp;lia) g1 g2 g3 g4 g5 (il p1.isList) (il p2.isList) fun hF qs acc' c' e1 e2 e3 e4 e5 e6 e7=>?_
 have szF:({ s1 with heap:=h' }:Shared).heap.objs.size=s1.heap.objs.size+5:=g6
 have keep:∀b o,s1.heap.get? b=some o→hF.get? b=some o:=fun b o e=>by
  have lb:=Heap.lt_size e
  refine e7 b o ?_ (hk b o e)
  simp only [ky,km,or_false,not_or]
  exact ⟨Nat.ne_of_lt (kI lb (Nat.le_add_right _ _)),Nat.ne_of_lt (kI lb (Nat.le_add_right _ _)),Nat.ne_of_lt lb,Nat.ne_of_lt (kI lb (Nat.le_add_right _ _))⟩
 have nd:qs.Nodup:=e4.imp fun {a b} (h:a < b)=>Nat.ne_of_lt h
 have lenT:qs.length=(jW xs ys).length:=by
  unfold jW
  rw [List.length_zipWith,e3]
  simp
  lia
 have lS:s1.heap.objs.size≤({ s1 with heap:=h' }:Shared).heap.objs.size:=by rw [szF];exact Nat.le_add_right _ _
 have qge:∀q'∈qs,s1.heap.objs.size≤q':=fun q' hq=>kn lS (Nat.le_of_lt (e5 q' hq))
 have hSq:({ s1 with heap:=h' }:Shared).heap.objs.size∉qs:=fun hq=>Nat.lt_irrefl _ (e5 _ hq)
 generalize ({ s1 with heap:=h' }:Shared).heap.objs.size=S at e1 e5 lS hSq ⊢
 have H1S:=I1.hok.fresh lS
 have I2:Inv X pins σ (upd (layP H1 qs (jW xs ys)) S (.lst (qs.map V.ref))) { s1 with heap:=hF,toks:=s1.toks }:=by
  refine I1.grown keep (fun b hb=>?_) (fun b o hb e=>?_)
  ·rw [zg (Nat.ne_of_lt (kI hb lS)),ZY fun hq=>Nat.lt_irrefl _ (kI hb (qge b hq))]
  ·by_cases hz:b=S
   ·subst hz
    rw [zb] at e
    cases e
    refine ⟨by rw [kh,lenT];unfold jW;rw [List.length_zipWith,sizeLine_eq];lia,acc'.toList,c',?_,by rw [e1];simp [lstO]⟩
    rw [e2]
    exact Jy qs
   ·rw [zg hz] at e
    by_cases hq:b∈qs
    ·rcases z18 nd hq e with ⟨j,t,h1,h2,rfl⟩ | h
     ·obtain ⟨x,y,ex,ey,rfl⟩:=QA h2
      obtain ⟨u,v,a1,a2,a3⟩:=e6 j b h1
      rw [Nat.zero_add] at a1 a2
      obtain ⟨u',hu',ru'⟩:=rv1.get ex
      obtain ⟨v',hv',rv'⟩:=rv2.get ey
      have eu:u=u':=by
       have:its1.toArray[j]?=some u':=by simpa using hu'
       rw [this] at a1
       exact (ku a1).symm
      have ev:v=v':=by
       have:its2.toArray[j]?=some v':=by simpa using hv'
       rw [this] at a2
       exact (ku a2).symm
      subst eu ev
      exact ⟨by show 2≤sizeLine;decide,[u,v],.cons ru' (.cons rv' .nil),_,a3,rfl,_,rfl⟩
     ·rw [I1.hok.fresh hb] at h
      cases h
    ·rw [ZY hq,I1.hok.fresh hb] at e
     cases e
 refine ⟨.ref S,_,I2,rfl,q S qs _ (fun b o e=>?_) H1S zb ?_⟩
 ·have lb:=I1.hok.lt e
  rw [zg (Nat.ne_of_lt (kI lb lS)),ZY fun hq=>Nat.lt_irrefl _ (kI lb (qge b hq))]
  exact e
 ·refine ji lenT fun j a t ea et=>?_
  have hne:a≠S:=fun z=>by subst z;exact hSq (kD ea)
  rw [zg hne]
  obtain ⟨t',e8,e9⟩:=jl.get (z33 nd lenT) ea
  rw [et] at e8
  cases e8
  exact e9
end
end L2
namespace L2
open PySem PySem.Spec PyProof.Rows
theorem Qr {prog:Program} {w:World} {A:Around} {E:Value→Shared→Prop} {s:Shared} {it d:Addr} {i n ep:Nat} {Q:Value→Shared→Prop} (he:s.heap.IsKeyIter it d i n ep) (h:Q (.ref it) s):wpAny (model prog w) A (pyIter (.ref it)) Q E s:=by
 have hT:=he.typeIs
 refine wpAny_pyIter_slot hT F.slot_dict_keyiterator_iter (wpAny_call_entry F.slot_dict_keyiterator_iter hT F.entry_dict_keyiterator_iter ?_ (F.args_dict_keyiterator_iter_1 _))
 show wpAny _ _ (ret (.ref it)) _ _ s
 exact wpAny_pure ⟨_,rfl,"dict_keyiterator",_,hT,F.slot_dict_keyiterator_next.lookup,h⟩
noncomputable def ItkG {Kt:Type} (kvV:Kt→V) (ok:Hp→Prop) (kvs:List (Kt × V)):It:=
 ⟨fun i H=>ok H∧i < kvs.length,fun i H x H'=>H'=H∧∃k v,x=kvV k∧kvs[i]?=some (k,v),fun i H=>ok H∧kvs.length≤i⟩
theorem Qv {Kt:Type} [DecidableEq Kt] {P:Program} {w:World} {K:ko} {tg:Expr} {knd:PySem.KeyKind P w Kt} {kvV:Kt→V} {ok:Hp→Prop} {kvs:List (Kt × V)} {vs:List (Kt × Value)} {ep:Nat} (hrel:∀k u,knd.is k u=true→RelV (kvV k) u) (a it:Addr)
  (hlen:kvs.length=vs.length) (hget:∀(i:Nat) (k:Kt) (v:V),kvs[i]?=some (k,v)→∃u,vs[i]?=some (k,u)) (hat:∀H h,HOk P w H h→ok H→h.DictAt knd a vs ep):
  Turn P w K tg (ItkG kvV ok kvs) [it] it (fun i h=>h.IsKeyIter it a i vs.length ep) where
 mem:=by simp
 obj:=fun i h st b hb=>by
  have z:b=it:=by simpa using hb
  subst z
  obtain ⟨ob,q,c,dd⟩:=st
  exact ⟨_,q,fun v y=>by rw [dd] at y;cases y⟩
 keep:=fun i h h' st k=>let ⟨ob,q,c,dd⟩:=st;⟨ob,k it (by simp) _ q,c,dd⟩
 item:=by
  intro X hP hw hK hc i pins s σ H E I hf st hg
  subst hP hw hK
  obtain ⟨hq,hi⟩:=hg
  have hm:=hat H s.heap I.hok hq
  obtain ⟨p,hp⟩:∃p,kvs[i]?=some p:=⟨kvs[i],kH hi⟩
  obtain ⟨u,hv⟩:=hget i p.1 p.2 hp
  obtain ⟨f0,f1,f2,f3,f4,f5⟩:=hf it (by simp)
  refine wpAny_pyNext_dict_item st hm hv fun key h' hkey st' sb=>?_
  have I1:Inv X pins σ H { s with heap:=h' }:=I.turned (t':=s.toks) (fun c oc hc e=>(sb.2 c hc).trans e) f0 f1 f3 f4 f5
  obtain ⟨oi,e,c,dd⟩:=id st'
  exact ⟨key,rfl,z60 (s:={ s with heap:=h' }) e c dd (by decide) ⟨kvV p.1,H,I1,hrel _ _ hkey,⟨rfl,p.1,p.2,rfl,hp⟩,st',fun c hc=>(hf c hc).1⟩⟩
 done:=by
  intro X hP hw hK hc i pins s σ H E I hf st hg
  subst hP hw hK
  obtain ⟨hq,hi⟩:=hg
  have hm:=hat H s.heap I.hok hq
  obtain ⟨f0,f1,f2,f3,f4,f5⟩:=hf it (by simp)
  exact wpAny_pyNext_dict_end (I.ok.hd hc) st hm (by rw [List.getElem?_eq_none_iff];lia) fun h' eb=>⟨rfl,I.turned (t':=s.toks) (fun b o hb e=>eb b o hb e) f0 f1 f3 f4 f5⟩
 self:=fun _ _ _ _ _ st h=>Qr st h
section
variable {X:Cx} {tg:Expr}
def z7g (td:TE):TI:=fun σ H R=>td σ H fun x H1=>∃a kvs,x=.ref a∧H1 a=some (.dK kvs)∧∀o,R (ItkG kV (fun H=>H a=some (.frz o (.dK kvs))) kvs) (upd H1 a (.frz o (.dK kvs)))
theorem z4c {l:Expr} {td:TE} (hl:PE X l td):PI X tg l (z7g td):=by
 intro pins s σ H R I h
 refine thn (hl pins s σ H _ I h) fun v s1 zz=>?_
 obtain ⟨x,H1,I1,r1,q1⟩:=zz
 obtain ⟨a,kvs,e,ha,q⟩:=q1
 subst e
 cases r1
 obtain ⟨hz,hsy,vs,rel,dd⟩:=z21 I1.hok ha
 obtain ⟨ob,es,ep,hob,hex,hdat,r3⟩:=id dd
 have hlen:kvs.length=vs.length:=Paired.length rel
 have hm:s1.heap.DictAt (zI X.prog X.w) a vs ep:=⟨ob,es,hob,hex,hdat,r3⟩
 refine wpAny_pyIter_dict hsy hm ?_
 have k2:∀b o,s1.heap.get? b=some o→(s1.heap.push { cls:=.type "dict_keyiterator",data:=.fields #[.ref a,.int 0 0,.int vs.length 0,.int ep 0] }).get? b=some o:=fun b o e=>Heap.get?_push_of_some _ e
 have I2:Inv X pins σ H1 { s1 with heap:=s1.heap.push { cls:=.type "dict_keyiterator",data:=.fields #[.ref a,.int 0 0,.int vs.length 0,.int ep 0] } }:=I1.kept (t':=s1.toks) k2
 have hob2:=k2 _ _ hob
 have nf:=I2.nofrz ha (fun _ _=>nofun)
 have I3:=I2.recast (u':=.frz ob (.dK kvs)) ha (fun _=>nofun) (fun _=>nofun) (fun _=>nofun) nf ⟨hob2,hz,hsy,vs,rel,ob,es,ep,hob2,hex,hdat,r3⟩
 refine ⟨s1.heap.objs.size,[s1.heap.objs.size],_,_,_,rfl,I3,Qv (knd:=zI X.prog X.w) (kvV:=kV) (kvs:=kvs) (vs:=vs) (ep:=ep) (fun k u h=>Qk h) a _ hlen (fun i k v e=>by obtain ⟨u,q,_⟩:=rel.get e;exact ⟨u,q⟩) (fun H h ok e=>?_),⟨_,Heap.get?_push_size _ rfl,rfl,rfl⟩,fun b hb=>?_,q ob⟩
 ·obtain ⟨hob3,_⟩:=(show qi X.prog X.w H h a (.frz ob (.dK kvs)) from ok a _ e)
  exact ⟨ob,es,hob3,hex,hdat,r3⟩
 ·have e:b=s1.heap.objs.size:=by simpa using hb
  subst e
  have hn:=I1.hok.fresh (kc s1.heap.objs.size)
  refine I1.fpOk (kc _) ?_
  rw [zg (zc ha hn).symm]
  exact hn
def z7h (td:TE):TI:=fun σ H R=>td σ H fun x H1=>∃a o kvs,x=.ref a∧H1 a=some (.frz o (.dK kvs))∧R (ItkG kV (fun H=>H a=some (.frz o (.dK kvs))) kvs) H1
theorem z4d {l:Expr} {td:TE} (hl:PE X l td):PI X tg l (z7h td):=by
 intro pins s σ H R I h
 refine thn (hl pins s σ H _ I h) fun v s1 zz=>?_
 obtain ⟨x,H1,I1,r1,q1⟩:=zz
 obtain ⟨a,ofz,kvs,e,ha,q⟩:=q1
 subst e
 cases r1
 obtain ⟨hob0,hz,hsy,vs,rel,dd⟩:=(show qi X.prog X.w H1 s1.heap a (.frz ofz (.dK kvs)) from I1.hok a _ ha)
 obtain ⟨ob,es,ep,hob,hex,hdat,r3⟩:=id dd
 have hlen:kvs.length=vs.length:=Paired.length rel
 have hm:s1.heap.DictAt (zI X.prog X.w) a vs ep:=⟨ob,es,hob,hex,hdat,r3⟩
 refine wpAny_pyIter_dict hsy hm ?_
 have k2:∀b o,s1.heap.get? b=some o→(s1.heap.push { cls:=.type "dict_keyiterator",data:=.fields #[.ref a,.int 0 0,.int vs.length 0,.int ep 0] }).get? b=some o:=fun b o e=>Heap.get?_push_of_some _ e
 have I2:Inv X pins σ H1 { s1 with heap:=s1.heap.push { cls:=.type "dict_keyiterator",data:=.fields #[.ref a,.int 0 0,.int vs.length 0,.int ep 0] } }:=I1.kept (t':=s1.toks) k2
 have hob2:=k2 _ _ hob
 have eo:ob=ofz:=by rw [hob] at hob0;exact ku hob0
 subst eo
 refine ⟨s1.heap.objs.size,[s1.heap.objs.size],_,_,_,rfl,I2,Qv (knd:=zI X.prog X.w) (kvV:=kV) (kvs:=kvs) (vs:=vs) (ep:=ep) (fun k u h=>Qk h) a _ hlen (fun i k v e=>by obtain ⟨u,q,_⟩:=rel.get e;exact ⟨u,q⟩) (fun H h ok e=>?_),⟨_,Heap.get?_push_size _ rfl,rfl,rfl⟩,fun b hb=>?_,q⟩
 ·obtain ⟨hob3,_⟩:=(show qi X.prog X.w H h a (.frz ob (.dK kvs)) from ok a _ e)
  exact ⟨ob,es,hob3,hex,hdat,r3⟩
 ·have e:b=s1.heap.objs.size:=by simpa using hb
  subst e
  have hn:=I1.hok.fresh (kc s1.heap.objs.size)
  exact I1.fpOk (kc _) hn
end
theorem z3j {Kt:Type} {kvV:Kt→V} {ok:Hp→Prop} {kvs:List (Kt × V)} {g:TG} {tb:TS} {D:Ends} {σ:St} {H:Hp} (Pv:Nat→St→Hp→Prop) (h0:Pv 0 σ H) (hl:∀i σ H,i≤kvs.length→Pv i σ H→ok H)
  (hs:∀i k v σ H,kvs[i]?=some (k,v)→Pv i σ H→g (kvV k) σ H fun σ2 H2=>tb { D with nx:=Pv (i+1),ct:=Pv (i+1),bk:=D.nx } σ2 H2) (hd:∀σ H,Pv kvs.length σ H→D.nx σ H):
  ∃W:Nat→Nat→St→Hp→Prop,(∃m,W 0 m σ H)∧∀i m σ H,W i m σ H→
   ((ItkG kvV ok kvs).stop i H∧D.nx σ H)∨((ItkG kvV ok kvs).go i H∧∃N:St→Hp→Prop,(∀σ' H',N σ' H'→∃m',m' < m∧W (i+1) m' σ' H')∧∀x H',(ItkG kvV ok kvs).yld i H x H'→g x σ H' fun σ2 H2=>tb { D with nx:=N,ct:=N,bk:=D.nx } σ2 H2):=by
 refine ⟨fun i m σ H=>m=kvs.length - i∧i≤kvs.length∧Pv i σ H,⟨kvs.length,by simp,Nat.zero_le _,h0⟩,?_⟩
 rintro i m σ H ⟨rfl,hi,p⟩
 have q:=hl i σ H hi p
 by_cases hlt:i < kvs.length
 ·refine .inr ⟨⟨q,hlt⟩,Pv (i+1),fun σ' H' h=>⟨kvs.length - (i+1),by lia,rfl,by lia,h⟩,fun x H' y=>?_⟩
  obtain ⟨e,k,v,ex,ek⟩:=y
  subst e ex
  exact hs i k v σ _ ek p
 ·have e:i=kvs.length:=by lia
  subst e
  exact .inl ⟨⟨q,kc _⟩,hd σ H p⟩
end L2
namespace L2
open PySem PySem.Spec PyProof.Rows
def PM (X:Cx) (m:Sem Unit) (t:St→Hp→(Hp→Prop)→Prop):Prop:=
 ∀(pins:List (Addr × Obj)) (s:Shared) (σ:St) (H:Hp) (Q:Hp→Prop),Inv X pins σ H s→t σ H Q→wpAny (model X.prog X.w) X.A m (fun _ s'=>∃H',Inv X pins σ H' s'∧Q H') X.xe s
def z3R (e:Expr) (it:Value) (D:Addr) (env:Env) (iter target:Expr) (ifs:List Expr) (emit:Sem Unit):Prop:=
 compTurn e 0 it (.ref D) env=(do
   standAt iter.pos
   let r ←pyNext it
   match r with
   | none=>pure (.done .next)
   | some v=>do
    letOwnedTupleGo target it v
    assign target env v
    let ok ←forIn ifs true fun c r=>if r=true then do let ok ←isTrue c env (eval c env);pure (ForInStep.yield ok) else pure (ForInStep.yield r)
    if ok=true then do
     let _ ←emit
     again (.compLoop e 0 it (.ref D) env)
    else again (.compLoop e 0 it (.ref D) env))
def DenG (prog:Program) (w:World) (e:Expr) (it:Value) (D:Addr) (env:Env):Prop:=
 (model prog w).den (.compLoop e 0 it (.ref D) env)=(compTurn e 0 it (.ref D) env).onRaise (fun x=>do noteFrame x env;theTreesLotGoes x)∧∀A:Around,A.under (.compLoop e 0 it (.ref D) env)=A
def z3S (prog:Program) (w:World) (A:Around) (e:Expr) (it acc:Value) (env:Env) (R:Result→Shared→Prop) (s:Shared):Prop:=
 codeAny (model prog w) A (.compLoop e 0 it acc env) R s→wpAny (model prog w) A (pyIter it) (fun it' s'=>codeAny (model prog w) A (.compLoop e 0 it' acc env) R s') (notedBy (model prog w) A env fun x s'=>R (.error x) s') s→
  codeAny (model prog w) A (.compStart e 0 it acc env) R s
theorem z00 {prog:Program} {w:World} {A:Around} {R:Result→Shared→Prop} {s:Shared} {e target iter:Expr} {ifs:List Expr} {it:Value} {D:Addr} {env:Env} {emit:Sem Unit} (hT:z3R e it D env iter target ifs emit) (hD:DenG prog w e it D env) (I:Nat→Shared→Prop)
  (turn:∀n s,I n s→wpAny (model prog w) A (pyNext it) (fun r s₁=>match r with
   | none=>R (.ok .next) s₁
   | some v=>wpAny (model prog w) A (letOwnedTupleGo target it v) (fun _ s₁'=>wpAny (model prog w) A (assign target env v) (fun _ s₂=>
     wpAny (model prog w) A (forIn ifs true fun c r=>if r=true then do let ok ←isTrue c env (eval c env);pure (ForInStep.yield ok) else pure (ForInStep.yield r)) (fun ok s₃=>
     if ok=true then wpAny (model prog w) A emit (fun _ s₄=>∃m,m < n∧I m s₄) (fun _ _=>False) s₃
     else ∃m,m < n∧I m s₃)
     (fun _ _=>False) s₂) (fun _ _=>False) s₁') (fun _ _=>False) s₁) (fun _ _=>False) s)
  (n:Nat) (h:I n s):codeAny (model prog w) A (.compLoop e 0 it (.ref D) env) R s:=by
 refine codeAny_loop rfl I (fun n s hI=>?_) n h
 rw [hD.2,hD.1]
 refine wpAny_noted ?_
 rw [hT]
 refine wpAny_bind (wpAny_standAt (wpAny_bind (wpAny_mono (turn n s hI) (fun r s₁ h₁=>?_) fun _ _ h'=>h'.elim)))
 cases r with
 | none=>exact wpAny_pure h₁
 | some v=>
  refine wpAny_bind (wpAny_mono h₁ (fun _ s₁' h₁'=>?_) fun _ _ h'=>h'.elim)
  refine wpAny_bind (wpAny_mono h₁' (fun _ s₂ h₂=>wpAny_bind (wpAny_mono h₂ (fun ok s₃ h₃=>?_) fun _ _ h'=>h'.elim)) fun _ _ h'=>h'.elim)
  cases ok with
  | true=>
   rw [kr rfl] at h₃ ⊢
   exact wpAny_bind (wpAny_mono h₃ (fun x s₃' h₃'=>wpAny_pure ⟨rfl,h₃'⟩) fun _ _ h'=>h'.elim)
  | false=>
   rw [kq ka] at h₃ ⊢
   exact wpAny_pure ⟨rfl,h₃⟩
theorem z2q {prog:Program} {w:World} {A:Around} {elt target iter:Expr} {ifs:List Expr} {scope:Scope} {pos:Pos} {it acc:Value} {env:Env} {R:Result→Shared→Prop} {s:Shared}:z3S prog w A (.SetComp elt [⟨target,iter,ifs,0⟩] scope pos) it acc env R s:=by
 intro h0 h
 refine codeAny_of_tree (id (wpAny_notedAt ?_))
 show wpAny _ _ (compStart (.SetComp elt [⟨target,iter,ifs,0⟩] scope pos) 0 it acc env) _ _ s
 unfold compStart
 show wpAny _ _ (do
   let st ←ask
   if st.params.followText "comprehension-iter-twice"=true then again (.compLoop (.SetComp elt [⟨target,iter,ifs,0⟩] scope pos) 0 it acc env)
   else do
    rule "comprehension.iter-twice"
    standAt iter.pos
    let it' ←pyIter it
    again (.compLoop (.SetComp elt [⟨target,iter,ifs,0⟩] scope pos) 0 it' acc env)) _ _ s
 refine wpAny_bind (wpAny_askSetting (wpAny_ite ?_))
 split
 ·exact wpAny_pure ⟨rfl,h0⟩
 ·exact wpAny_bind (wpAny_rule (wpAny_bind (wpAny_standAt (wpAny_bind (wpAny_mono h (fun it' s' h'=>wpAny_pure ⟨rfl,h'⟩) fun _ _ e=>e)))))
noncomputable def z4Q (elt:Expr) (D:Addr) (env:Env):Sem Unit:=do
 let v ←eval elt env
 standAt elt.pos
 let _ ←call (.builtin "set.add") [.ref D,v]
 pure ()
noncomputable def z1i (kx vx:Expr) (D:Addr) (env:Env):Sem Unit:=do
 let kv ←eval kx env
 let vv ←holding [kv] (eval vx env)
 standAt { kx.pos with endLine:=vx.pos.endLine,endCol:=vx.pos.endCol }
 holding [kv,vv] (dictSet D kv vv)
theorem z41 {elt target iter:Expr} {ifs:List Expr} {scope:Scope} {pos:Pos} {it:Value} {D:Addr} {env:Env}:z3R (.SetComp elt [⟨target,iter,ifs,0⟩] scope pos) it D env iter target ifs (z4Q elt D env):=rfl
theorem z6k {prog:Program} {w:World} {elt target iter:Expr} {ifs:List Expr} {scope:Scope} {pos:Pos} {it:Value} {D:Addr} {env:Env}:DenG prog w (.SetComp elt [⟨target,iter,ifs,0⟩] scope pos) it D env:=⟨rfl,fun _=>rfl⟩
theorem z4R {prog:Program} {w:World} {kx vx target iter:Expr} {ifs:List Expr} {scope:Scope} {pos:Pos} {it:Value} {D:Addr} {env:Env}:DenG prog w (.DictComp kx vx [⟨target,iter,ifs,0⟩] scope pos) it D env:=⟨rfl,fun _=>rfl⟩
theorem z2j {kx vx target iter:Expr} {ifs:List Expr} {scope:Scope} {pos:Pos} {it:Value} {D:Addr} {env:Env}:z3R (.DictComp kx vx [⟨target,iter,ifs,0⟩] scope pos) it D env iter target ifs (z1i kx vx D env):=rfl
def z2m (u0:Addr→HO) (nt:Nat) (ix:List Nat) (wi:TI) (g:TG) (tc:TT) (tm:Addr→St→Hp→(Hp→Prop)→Prop):TE:=fun σ H Q=>wi σ H fun J H1=>∀l,H1 l=none→∃W:Nat→Nat→St→Hp→Prop,(∃m,W 0 m (qt nt ix σ) (upd H1 l (u0 l)))∧∀i m σ' H2,W i m σ' H2→
 (J.stop i H2∧Q (.ref l) H2)∨(J.go i H2∧∀x H3,J.yld i H2 x H3→g x σ' H3 fun σ2 H4=>tc σ2 H4 fun b H5=>if b=true then tm l σ2 H5 fun H6=>∃m',m' < m∧W (i+1) m' σ2 H6
  else ∃m',m' < m∧W (i+1) m' σ2 H5)
section
variable {X:Cx}
theorem z0C {e iter tg:Expr} {emit:Addr→Env→Sem Unit} {newAcc:Sem Value} {o0:Obj} {u0:Addr→HO} {tm:Addr→St→Hp→(Hp→Prop)→Prop} {ifs:List Expr} {N:List Str} {nt:Nat} {ix:List Nat} {scope:Scope} {cl:List (Str × Addr)} {pins:List (Addr × Obj)} {σ:St} {H:Hp} {s:Shared} {it:Addr} {fp:List Addr} {tn:Nat→Heap→Prop} {J:It} {g:TG} {tc:TT} {Q:VK} {E:Value→Shared→Prop}
  {RR:Value→Addr→Result→Shared→Prop}
  (hc:X.calm=true) (sc:qf X N nt ix scope cl) (I:Inv X pins σ H s) (T:Turn X.prog X.w X.K tg J fp it tn) (st:tn 0 s.heap) (hf:∀b∈fp,FpOk X pins H b)
  (hg:∀(s:Shared) (H:Hp) (fp:List Addr) (C:Addr),PG (zo X N scope cl s H fp C) tg g)
  (ht:∀(s:Shared) (H:Hp) (fp:List Addr) (C:Addr),PTs (zo X N scope cl s H fp C) ifs tc)
  (he:∀(s:Shared) (H:Hp) (fp:List Addr) (C D:Addr),PM (zo X N scope cl s H fp C) (emit D (compEnvC scope cl C X.env)) (tm D))
  (hTn:∀it D env,z3R e it D env iter tg ifs (emit D env)) (hDn:∀it D env,DenG X.prog X.w e it D env) (hSt:∀it acc env R s,z3S X.prog X.w X.A e it acc env R s)
  (hnew:∀(s:Shared) (Q:Value→Shared→Prop),Q (.ref s.heap.objs.size) { s with heap:=s.heap.push o0 }→wpAny (model X.prog X.w) X.A newAcc Q E s)
  (hlay:∀{pins σ H s},Inv X pins σ H s→qi X.prog X.w (upd H s.heap.objs.size (u0 s.heap.objs.size)) (s.heap.push o0) s.heap.objs.size (u0 s.heap.objs.size))
  (h:∀l,H l=none→∃W:Nat→Nat→St→Hp→Prop,(∃m,W 0 m (qt nt ix σ) (upd H l (u0 l)))∧∀i m σ' H2,W i m σ' H2→
   (J.stop i H2∧Q (.ref l) H2)∨(J.go i H2∧∀x H3,J.yld i H2 x H3→g x σ' H3 fun σ2 H4=>tc σ2 H4 fun b H5=>if b=true then tm l σ2 H5 fun H6=>∃m',m' < m∧W (i+1) m' σ2 H6
    else ∃m',m' < m∧W (i+1) m' σ2 H5))
  (hRR:∀D C s' H' m,Inv X pins σ H' s'→s'.heap.Ns C m→C≠X.env.locals→H' C=none→X.s₀.heap.objs.size≤C→(∀x c,X.env.cells.lookup x=some c→c≠C)→(∀p∈X.pn++pins,p.1≠C)→Q (.ref D) H'→RR (.ref D) C (.ok .next) s'):
  wpAny (model X.prog X.w) X.A newAcc (fun acc s₃=>wpAny (model X.prog X.w) X.A (newFunctionEnv scope X.env.globals cl [] X.env.qual none .none (some X.env)) (fun cenv s₄=>
   codeAny (model X.prog X.w) X.A (.compStart e 0 (.ref it) acc { cenv with scope:=relabel scope X.env }) (RR acc cenv.locals) s₄) E s₃) E s:=by
 refine hnew _ _ ?_
 have I3:Inv X pins σ (upd H s.heap.objs.size (u0 s.heap.objs.size)) { s with heap:=s.heap.push o0 }:=I.laid (t':=s.toks) (fun _ _ q=>Heap.get?_push_of_some _ q) (kc _) (hlay I)
 have st3:tn 0 (s.heap.push o0):=T.keep _ _ _ st fun b hb o e=>Heap.get?_push_of_some _ e
 have fpl:∀b∈fp,b < s.heap.objs.size:=fun b hb=>by
  obtain ⟨o,e,_⟩:=T.obj _ _ st b hb
  exact Heap.lt_size e
 obtain ⟨W,⟨m0,w0⟩,turn⟩:=h s.heap.objs.size I.fresh
 have hf3:∀b∈fp,FpOk X pins (upd H s.heap.objs.size (u0 s.heap.objs.size)) b:=fun b hb=>⟨by rw [zg (Nat.ne_of_lt (fpl b hb))];exact (hf b hb).1,(hf b hb).2⟩
 generalize hD:s.heap.objs.size=D at *
 generalize hH3:upd H D (u0 D)=H3 at *
 generalize hs3:({ s with heap:=s.heap.push o0 }:Shared)=s3 at *
 have hsz3:s3.heap.objs.size=D+1:=by rw [←hs3,←hD];exact Heap.size_push ..
 have st3':tn 0 s3.heap:=by rw [←hs3];exact st3
 refine wpAny_newFunctionEnv (s:=s3) sc.nocell (by intro y hy;simp at hy) (fun h1 hns hsb=>?_) sc.kind
 generalize hC:s3.heap.objs.size=C at *
 have kept:∀b o,s3.heap.get? b=some o→h1.get? b=some o:=fun b o e=>hsb.extBut b o (by rw [←hC];exact Nat.ne_of_lt (Heap.lt_size e)) (Heap.get?_push_of_some _ e)
 show codeAny (model X.prog X.w) X.A (.compStart e 0 (.ref it) (.ref D) (compEnvC scope cl C X.env)) (RR (.ref D) C) { s3 with heap:=h1,toks:=s3.toks+0 }
 have fpC:∀b∈fp,b≠C:=fun b hb=>Nat.ne_of_lt (kI (fpl b hb) (by rw [hsz3];exact Nat.le_succ D))
 have cellC:∀x c,cl.lookup x=some c→c≠C:=fun x c e z=>by
  obtain ⟨v,q⟩:=I3.cell x c (sc.sub x c e)
  have:=q.lt
  rw [hC,z] at this
  exact Nat.lt_irrefl _ this
 have ok:(zo X N scope cl s3 H3 fp C).Ok:={
  mod:=I.ok.mod,kind:=(show (relabel scope X.env).kind=.function from sc.kind),glob:=I.ok.glob,blt:=I.ok.blt,above:=kS hC
  inj:=fun y z c e e'=>I.ok.inj y z c (sc.sub y c e) (sc.sub z c e')
  has:=fun y hy=>sc.has y hy
  cab:=fun y c e _=>nomatch e
  hd:=fun _=>I.ok.hd hc
  frames:=I.ok.frames
  stk:=.inl rfl
  exf:=fun b hb=>⟨fpC b hb,fun y c e=>(hf3 b hb).2.2.2.2.1 y c (sc.sub y c e)⟩
  bs:=I3.bs
  bsz:=kn I.ok.bsz I3.sz
  noex:=fun b o e hb=>by
   obtain ⟨_,_,_,h4,_⟩:=hf3 b hb
   rcases h4 with z | z
   ·exact I.ok.noex b o e z
   ·exact absurd (kI (Heap.lt_size (I.ok.bs b o e).1) z) (Nat.lt_irrefl _)
  exfs:=fun b hb z=>by
   obtain ⟨_,h1,h2,_⟩:=hf3 b hb
   rcases ky.mp (I3.stkSub b z) with q | q
   ·exact h1 q
   ·exact h2 q
  funs:=I3.stack
  frf:=I3.stkFree }
 have cellK:∀c v,s3.heap.IsCell c v→h1.IsCell c v:=fun c v ⟨o,ho,hd⟩=>⟨o,kept c o ho,hd⟩
 have I4:Inv (zo X N scope cl s3 H3 fp C) [] (qt nt ix σ) H3 { s3 with heap:=h1,toks:=s3.toks+0 }:={
  ok:=ok,os:=rfl,bare:=I3.bare,base:=Un.kept kept
  loc:=⟨_,hns,fun i y v e1 e2 _=>by
   have e2:(qt nt ix σ)[i]?=some (some v):=e2
   unfold qt at e2
   by_cases hi:i < nt
   ·rw [yc (by simpa using hi),List.getElem?_replicate,kr hi] at e2
    cases e2
   ·obtain ⟨j,rfl⟩:∃j,i=nt+j:=⟨i - nt,by lia⟩
    rw [yd (by simp),List.length_replicate,Nat.add_sub_cancel_left,List.getElem?_map] at e2
    obtain ⟨k,hk,hXN,hkind,hrel,hcl⟩:=sc.free j y e1
    rw [hk] at e2
    have e3:σ[k]?=some (some v):=by
     cases q:σ[k]? with
     | none=>rw [Option.map_some,q] at e2;cases e2
     | some o=>rw [Option.map_some,q] at e2;simpa using e2
    obtain ⟨m,_,hl⟩:=I3.loc
    obtain ⟨u,ru,lk⟩:=hl k y v hXN e3 (.inr (.inl hkind))
    refine ⟨u,ru,.inr ⟨.inl hrel,?_⟩⟩
    rcases lk with ⟨z,_⟩ | ⟨_,c,hcc,hcell⟩
    ·rw [hkind] at z;cases z
    ·exact ⟨c,hcl c hcc,cellK _ _ hcell⟩⟩
  cell:=fun y c e=>let ⟨v,q⟩:=I3.cell y c (sc.sub y c e);⟨v,cellK _ _ q⟩
  free:=I3.hok.fresh (kS hC)
  freeC:=fun y c e=>I3.freeC y c (sc.sub y c e)
  pin:=fun p hp=>absurd (show p∈([]:List (Addr × Obj)) from hp) (by simp)
  hok:=I3.hok.kept kept
  len:=by show (qt nt ix σ).length=N.length;rw [sc.len];unfold qt;simp }
 have st4:tn 0 h1:=T.keep _ _ _ st3' fun b hb o e=>kept b o e
 have stat:∀{H':Hp},(∀b∈fp,H' b=none)→∀b∈fp,FpOk (zo X N scope cl s3 H3 fp C) [] H' b:=fun hn b hb=>⟨hn b hb,fpC b hb,ok.exfs b hb,.inl hb,(fun y c e=>(hf3 b hb).2.2.2.2.1 y c (sc.sub y c e)),fun p hp=>absurd (show p∈([]:List (Addr × Obj)) from hp) (by simp)⟩
 have loop:codeAny (model X.prog X.w) X.A (.compLoop e 0 (.ref it) (.ref D) (compEnvC scope cl C X.env)) (RR (.ref D) C) { s3 with heap:=h1,toks:=s3.toks+0 }:=by
  refine z00 (hTn _ _ _) (hDn _ _ _) (fun n s'=>∃i σ' H',Inv (zo X N scope cl s3 H3 fp C) [] σ' H' s'∧tn i s'.heap∧(∀b∈fp,H' b=none)∧W i n σ' H') ?_ m0 ⟨0,_,H3,I4,st4,fun b hb=>(hf3 b hb).1,w0⟩
  rintro n s5 ⟨i,σ5,H5,I5,st5,fr5,w5⟩
  rcases turn i n σ5 H5 w5 with ⟨stop,qn⟩ | ⟨go,step⟩
  ·refine thn (T.done (zo X N scope cl s3 H3 fp C) rfl rfl rfl rfl i [] s5 σ5 H5 _ I5 (stat fr5) st5 stop) fun r s6 zz=>?_
   obtain ⟨hr,I6⟩:=zz
   subst hr
   obtain ⟨m6,n6,_⟩:=I6.loc
   refine hRR D C s6 H5 m6 (I3.call' I6.os I6.base I6.hok I6.bare fun b hb=>?_) n6 (Nat.ne_of_gt (by have:=I3.lt;rw [hC] at this;exact this)) I6.free (by have:=I3.sz;rw [hC] at this;exact this) (fun y c e z=>?_) (fun p hp z=>?_) qn
   ·obtain ⟨_,h1,_,h4,h5,h6⟩:=hf3 b hb
    exact ⟨h4,h1,h5,h6⟩
   ·obtain ⟨v,q⟩:=I3.cell y c e
    have:=q.lt
    rw [hC,z] at this
    exact Nat.lt_irrefl _ this
   ·have:=Heap.lt_size (I3.pin p hp).1
    rw [hC,z] at this
    exact Nat.lt_irrefl _ this
  ·refine thn (T.item (zo X N scope cl s3 H3 fp C) rfl rfl rfl rfl i [] s5 σ5 H5 _ I5 (stat fr5) st5 go) fun r s6 zz=>?_
   obtain ⟨u,hr,h6⟩:=zz
   subst hr
   refine thn h6 fun _ s7 zz=>?_
   obtain ⟨v,H7,I7,r7,y7,st7,fr7⟩:=zz
   have I7':=I7.pinned (stat fr7) (T.obj _ _ st7)
   refine thn (hg s3 H3 fp C _ s7 σ5 H7 v u _ I7' r7 (step v H7 y7)) fun _ s8 zz=>?_
   obtain ⟨σ8,H8,I8,q8⟩:=zz
   refine thn (ht s3 H3 fp C _ s8 σ8 H8 _ I8 q8) fun b s9 zz=>?_
   obtain ⟨H9,I9,q9⟩:=zz
   have again:∀{sE:Shared} {HE:Hp} {m':Nat},Inv (zo X N scope cl s3 H3 fp C) ([]++ZH fp s7.heap) σ8 HE sE→m' < n→W (i+1) m' σ8 HE→∃m,m < n∧∃i σ' H',Inv (zo X N scope cl s3 H3 fp C) [] σ' H' sE∧tn i sE.heap∧(∀b∈fp,H' b=none)∧W i m σ' H':=fun {sE HE m'} IE hm' wE=>by
    refine ⟨m',hm',i+1,σ8,HE,IE.unpinned (pins:=[]),T.keep _ _ _ st7 fun b hb o e=>(IE.pin (b,o) (kJ _ (kJ _ (ql hb e)))).1,fun b hb=>?_,wE⟩
    obtain ⟨o,e,d⟩:=T.obj _ _ st7 b hb
    exact (IE.pin (b,o) (kJ _ (kJ _ (ql hb e)))).2.1
   cases b with
   | false=>
    rw [kq ka] at q9 ⊢
    obtain ⟨m',hm',w9⟩:=q9
    exact again I9 hm' w9
   | true=>
    rw [kr rfl] at q9 ⊢
    refine thn (he s3 H3 fp C D _ s9 σ8 H9 _ I9 q9) fun _ s10 zz=>?_
    obtain ⟨H10,I10,q10⟩:=zz
    obtain ⟨m',hm',w9⟩:=q10
    exact again I10 hm' w9
 exact hSt _ _ _ _ _ loop (T.self _ 0 _ _ _ st4 loop)
theorem z0X {e iter tg:Expr} {emit:Addr→Env→Sem Unit} {newAcc:Sem Value} {o0:Obj} {u0:Addr→HO} {tm:Addr→St→Hp→(Hp→Prop)→Prop} {ifs:List Expr} {N:List Str} {nt:Nat} {ix:List Nat} {scope:Scope} {cl:List (Str × Addr)} {pos:Pos} {wi:TI} {g:TG} {tc:TT}
  (hev:eval e X.env=comprehension e scope X.env pos newAcc false (eval iter X.env)) (hcl:clausesOf e=[⟨tg,iter,ifs,0⟩])
  (hTn:∀it D env,z3R e it D env iter tg ifs (emit D env)) (hDn:∀it D env,DenG X.prog X.w e it D env) (hSt:∀it acc env R s,z3S X.prog X.w X.A e it acc env R s)
  (hnew:∀(s:Shared) (Q:Value→Shared→Prop),Q (.ref s.heap.objs.size) { s with heap:=s.heap.push o0 }→wpAny (model X.prog X.w) X.A newAcc Q X.xe s)
  (hlay:∀{pins σ H s},Inv X pins σ H s→qi X.prog X.w (upd H s.heap.objs.size (u0 s.heap.objs.size)) (s.heap.push o0) s.heap.objs.size (u0 s.heap.objs.size))
  (hc:X.calm=true) (sc:qf X N nt ix scope cl) (hi:PI X tg iter wi)
  (hg:∀(s:Shared) (H:Hp) (fp:List Addr) (C:Addr),PG (zo X N scope cl s H fp C) tg g)
  (ht:∀(s:Shared) (H:Hp) (fp:List Addr) (C:Addr),PTs (zo X N scope cl s H fp C) ifs tc)
  (he:∀(s:Shared) (H:Hp) (fp:List Addr) (C D:Addr),PM (zo X N scope cl s H fp C) (emit D (compEnvC scope cl C X.env)) (tm D)) (hs:∀x,foldedSetIterable iter X.env x=pure x):
  PE X e (z2m u0 nt ix wi g tc tm):=by
 intro pins s σ H Q I h
 rw [hev]
 refine wpAny_comprehension_free (use:=none) hcl hs sc.clos sc.kind sc.names (thn (hi pins s σ H _ I h) fun v s1 h1=>thn h1 fun itv s2 h2=>?_)
 obtain ⟨it,fp,tn,J,H2,e,I2,T,st2,f2,q2⟩:=h2
 subst e
 refine z0C (RR:=fun acc C=>compPost (model X.prog X.w) X.A X.xe none (EP X pins σ Q) acc C) hc sc I2 T st2 f2 hg ht he hTn hDn hSt hnew hlay q2 ?_
 intro D C s' H' m I' n' c1 c2 c3 c4 c5 q'
 exact ⟨m,n',fun h' hs'=>⟨.ref D,H',I'.turned (t':=s'.toks) (it:=C) (fun b o hb e=>(hs'.2 b hb).trans e) c2 c1 (.inr c3) c4 c5,rfl,q'⟩⟩
end
end L2
namespace L2
open PySem PySem.Spec PyProof.Rows
section
variable {X:Cx}
theorem z5X {prog:Program} {w:World} {h:Heap}:IxS prog w (h.push (setO w)) h.objs.size []:=
 ⟨#[],0,_,Heap.get?_push_size _ rfl,fun e he=>by simp at he,.nil,by decide,rfl,z2k _ _ _,rfl⟩
theorem z3c {prog:Program} {w:World} {H:Hp} {h:Heap} {a:Addr} {ks:List Int} (T:IxS prog w h a ks):qi prog w H h a (jG prog w a ks):=
 ⟨T,by obtain ⟨es,ep,t,g,_⟩:=T;exact ⟨_,g⟩,fun h1 h2 p k=>p.kept k⟩
theorem z5S {prog:Program} {w:World} {A:Around} {E:Value→Shared→Prop} (s:Shared) (Q:Value→Shared→Prop) (h:Q (.ref s.heap.objs.size) { s with heap:=s.heap.push (setO w) }):wpAny (model prog w) A (newSet (.type "set")) Q E s:=by
 unfold newSet setsByText
 refine wpAny_bind (wpAny_bind (wpAny_askSetting (wpAny_pure ?_)))
 exact wpAny_newObj_type h
theorem z5F {pins:List (Addr × Obj)} {σ:St} {H:Hp} {s:Shared} {D:Addr} {ks:List Int} {z:Int} {tk:Tok} {Q:Unit→Shared→Prop} {E:Value→Shared→Prop} (I:Inv X pins σ H s) (hD:H D=some (jG X.prog X.w D ks)) (hz:ks.length < 1000)
  (q:∀s',Inv X pins σ (upd H D (jG X.prog X.w D (addI ks z))) s'→Q () s'):
  wpAny (model X.prog X.w) X.A (do let _ ←call (.builtin "set.add") [.ref D,.int z tk];pure ()) Q E s:=by
 have T:IxS X.prog X.w s.heap D ks:=(show qi X.prog X.w H s.heap D (jG X.prog X.w D ks) from I.hok D _ hD).1
 obtain ⟨es,ep,t,ho,_⟩:=id T
 have hty:s.TypeIs (.ref D) "set":=⟨_,ho,rfl⟩
 refine wpAny_bind (wpAny_call_entry PySem.F.slot_set_add hty PySem.F.entry_set_add ?_ (by first | exact PySem.F.args_set_add_2 _ _ | (unfold argsOk;kernel_rfl)))
 unfold Builtin.«set.add»
 refine wpAny_bind (m:=Builtin.Frozenset.oneOther _ _) (wpAny_pure ?_)
 refine wpAny_bind ?_
 unfold setAdd
 refine wpAny_holding (wpAny_bind ((PySem.intKind X.prog X.w).pyHash (k:=z) z3d ?_))
 refine z4Z (s:={ s with toks:=s.toks+1 }) T (by unfold scanBound;lia) fun h' b sb T'=>?_
 refine wpAny_pure ⟨_,rfl,wpAny_pure (q _ ?_)⟩
 exact I.write (t':=s.toks+1) (x:=D) (e:=D) (by rw [hD];exact True.intro) (.inl rfl) (fun b o hb e=>(sb.2 b hb).trans e) (by obtain ⟨es,ep,t,g,_⟩:=T';exact ⟨_,g⟩) (z3c T')
def z6y (P:Program) (w:World) (te:TE):Addr→St→Hp→(Hp→Prop)→Prop:=fun D σ H Q=>te σ H fun v H1=>∃ks z,v=.int z∧H1 D=some (jG P w D ks)∧ks.length < 1000∧Q (upd H1 D (jG P w D (addI ks z)))
theorem z6U {elt:Expr} {te:TE} {D:Addr} {env:Env} (he:env=X.env) (h:PE X elt te):PM X (z4Q elt D env) (z6y X.prog X.w te D):=by
 subst he
 intro pins s σ H Q I hq
 unfold z4Q
 refine wpAny_bind (thn (h pins s σ H _ I hq) fun u s1 zz=>?_)
 obtain ⟨v,H1,I1,r1,ks,z,ev,hD,hz,q⟩:=zz
 subst ev
 obtain ⟨tk,rfl⟩:=r1
 exact wpAny_bind (wpAny_standAt (z5F I1 hD hz fun s' I'=>⟨_,I',q⟩))
def z54 (tk tv:TE):Addr→St→Hp→(Hp→Prop)→Prop:=fun D σ H Q=>tk σ H fun x H1=>tv σ H1 fun y H2=>∃kvs k,x=kV k∧H2 D=some (.dK kvs)∧kvs.length < sizeLine∧Q (upd H2 D (.dK (putK kvs k y)))
theorem z5H {kx vx:Expr} {tk tv:TE} {D:Addr} {env:Env} (he:env=X.env) (h:PE X kx tk) (h':PE X vx tv):PM X (z1i kx vx D env) (z54 tk tv D):=by
 subst he
 intro pins s σ H Q I hq
 unfold z1i
 refine wpAny_bind (thn (h pins s σ H _ I hq) fun u s1 zz=>?_)
 obtain ⟨x,H1,I1,r1,q1⟩:=zz
 refine wpAny_bind (wpAny_holding (thn (h' pins s1 σ H1 _ I1 q1) fun u2 s2 zz=>?_))
 obtain ⟨y,H2,I2,r2,kvs,k,ex,hD,hz,q⟩:=zz
 subst ex
 refine wpAny_bind (wpAny_standAt (wpAny_holding ?_))
 obtain ⟨z,hd,vs,rel,dd⟩:=z21 I2.hok hD
 have hz':vs.length≤sizeLine:=by rw [←rel.length];exact z
 have hl:(putK kvs k y).length≤sizeLine:=by have:=qp kvs k y;lia
 refine wpAny_dictSet_pairs (hsz:=hz') (J7 r1) dd fun h1 dd' hs=>⟨_,?_,q⟩
 have hx:∃q,h1.get? D=some q:=let ⟨q,_,_,hq,_⟩:=dd';⟨q,hq⟩
 exact I2.write (t':=s2.toks+1) (x:=D) (e:=D) (by rw [hD];exact True.intro) (.inl rfl) (fun b o hb e=>(hs.2 b hb).trans e) hx (z1j hl hd (rel.put k r2) dd')
theorem Qb {elt iter tg:Expr} {ifs:List Expr} {N:List Str} {nt:Nat} {ix:List Nat} {scope:Scope} {cl:List (Str × Addr)} {pos:Pos} {wi:TI} {g:TG} {tc:TT} {te:TE}
  (hc:X.calm=true) (sc:qf X N nt ix scope cl) (hi:PI X tg iter wi)
  (hg:∀(s:Shared) (H:Hp) (fp:List Addr) (C:Addr),PG (zo X N scope cl s H fp C) tg g)
  (ht:∀(s:Shared) (H:Hp) (fp:List Addr) (C:Addr),PTs (zo X N scope cl s H fp C) ifs tc)
  (he:∀(s:Shared) (H:Hp) (fp:List Addr) (C:Addr),PE (zo X N scope cl s H fp C) elt te) (hs:∀x,foldedSetIterable iter X.env x=pure x:=by intro _;rfl):
  PE X (.SetComp elt [⟨tg,iter,ifs,0⟩] scope pos) (z2m (fun D=>jG X.prog X.w D []) nt ix wi g tc (z6y X.prog X.w te)):=
 z0X (newAcc:=newSet (.type "set")) (o0:=setO X.w) (emit:=z4Q elt) rfl rfl (fun _ _ _=>z41) (fun _ _ _=>z6k) (fun _ _ _ _ _=>z2q) (fun s Q h=>z5S s Q h) (fun I=>z3c z5X) hc sc hi hg ht (fun s H fp C D=>z6U rfl (he s H fp C)) hs
theorem z0q {kx vx iter tg:Expr} {ifs:List Expr} {N:List Str} {nt:Nat} {ix:List Nat} {scope:Scope} {cl:List (Str × Addr)} {pos:Pos} {wi:TI} {g:TG} {tc:TT} {tk tv:TE}
  (hc:X.calm=true) (sc:qf X N nt ix scope cl) (hi:PI X tg iter wi)
  (hg:∀(s:Shared) (H:Hp) (fp:List Addr) (C:Addr),PG (zo X N scope cl s H fp C) tg g)
  (ht:∀(s:Shared) (H:Hp) (fp:List Addr) (C:Addr),PTs (zo X N scope cl s H fp C) ifs tc)
  (hk:∀(s:Shared) (H:Hp) (fp:List Addr) (C:Addr),PE (zo X N scope cl s H fp C) kx tk) (hv:∀(s:Shared) (H:Hp) (fp:List Addr) (C:Addr),PE (zo X N scope cl s H fp C) vx tv) (hs:∀x,foldedSetIterable iter X.env x=pure x:=by intro _;rfl):
  PE X (.DictComp kx vx [⟨tg,iter,ifs,0⟩] scope pos) (z2m (fun _=>.dK []) nt ix wi g tc (z54 tk tv)):=
 z0X (newAcc:=newDict) (o0:={ cls:=.type "dict",data:=.dict #[] }) (emit:=z1i kx vx) rfl rfl (fun _ _ _=>z2j) (fun _ _ _=>z4R) (fun _ _ _ _ _=>codeAny_compStart_dict) (fun s Q h=>wpAny_newObj_type h) (fun I=>Jd _ I.big) hc sc hi hg ht (fun s H fp C D=>z5H rfl (hk s H fp C) (hv s H fp C)) hs
end
end L2
namespace L2
open PySem PySem.Spec PyProof.Rows
section
variable {X:Cx}
theorem z0p {elt iter tg iter2 tg2:Expr} {N:List Str} {nt:Nat} {ix:List Nat} {y:Str} {i:Nat} {py spos:Pos} {scope:Scope} {cl:List (Str × Addr)} {pos:Pos} {wi wi2:TI} {g g2:TG} {te:TE} (hc:X.calm=true) (hN:X.N.Nodup) (hy:X.N[i]?=some y) (hl:Loc X.env.scope y) (sc:qf X N nt ix scope cl) (hi:PI X tg iter wi)
  (hg:∀(s:Shared) (H:Hp) (fp:List Addr) (C:Addr),PG (zo X N scope cl s H fp C) tg g)
  (hi2:∀(s:Shared) (H:Hp) (fp:List Addr) (C:Addr),PI (zo X N scope cl s H fp C) tg2 iter2 wi2)
  (hg2:∀(s:Shared) (H:Hp) (fp:List Addr) (C:Addr),PG (zo X N scope cl s H fp C) tg2 g2)
  (he:∀(s:Shared) (H:Hp) (fp:List Addr) (C:Addr),PE (zo X N scope cl s H fp C) elt te)
  (hsw:autoParam (swapsWith (.ListComp elt [⟨tg,iter,[],0⟩,⟨tg2,iter2,[],0⟩] scope pos) (some (.Name y py)) spos.line X.env=pure true) aR._auto_1) (hs:∀x,foldedSetIterable iter X.env x=pure x:=by intro _;rfl)
  (hs2:∀x C,foldedSetIterable iter2 (compEnvC scope cl C X.env) x=pure x:=by intro _ _;rfl) (hf:X.fn y=true∨X.env.scope.names.lookup y=some .local:=by first | exact .inl rfl | exact .inr rfl | assumption):
  PS X (.Assign [.Name y py] (.ListComp elt [⟨tg,iter,[],0⟩,⟨tg2,iter2,[],0⟩] scope pos) spos) (QO i (z6H nt ix wi g wi2 g2 te)):=by
 intro pins s σ H D I h
 rw [exec_Assign_Name_used _ _ _ _ hsw]
 refine wpAny_bind (wpAny_standAt (wpAny_bind ?_))
 show wpAny _ X.A (do let _ ←comprehension (.ListComp elt [⟨tg,iter,[],0⟩,⟨tg2,iter2,[],0⟩] scope pos) scope X.env _ (newList []) false (eval iter X.env) (some (assign (.Name y py) X.env))) _ _ s
 refine wpAny_bind (wpAny_mono (wpAny_comprehension_free (use:=some (assign (.Name y py) X.env)) (Q:=fun _ s'=>SP X pins D .next s') (E:=X.xe) rfl hs sc.clos sc.kind sc.names
  (thn (hi pins s σ H _ I h) fun v s1 h1=>thn h1 fun itv s2 h2=>?_)) (fun _ s' hq=>wpAny_pure (wpAny_pure hq)) fun _ _ e=>e)
 obtain ⟨it,fp,tn,J,H2,e,I2,T,st2,f2,q2⟩:=h2
 subst e
 refine z0D (Q:=fun v H1=>D.nx (σ.set i (some v)) H1) (RR:=fun acc C=>compPost (model X.prog X.w) X.A X.xe (some (assign (.Name y py) X.env)) (fun _ s'=>SP X pins D .next s') acc C) hc sc I2 T st2 f2 hg hi2 hg2 hs2 he q2 ?_
 intro l C s' H' m I' n' c1 c2 c3 c4 c5 q'
 show wpAny _ X.A (assign (.Name y py) X.env (.ref l)) _ _ _
 refine wpAny_assign_Name (Q3 I' hN hy hl (v:=.ref l) rfl (fun s'' I'' k=>?_) hf)
 obtain ⟨a,sb,ha⟩:=k
 have hne:C≠a:=by
  rcases ha with ha | ha
  ·rw [ha];exact c1
  ·exact fun z=>c4 _ _ ha z.symm
 refine ⟨m,n'.sameBut sb hne,fun h' hs'=>?_⟩
 exact ⟨_,H',I''.turned (t':=s''.toks) (it:=C) (fun b o hb e=>(hs'.2 b hb).trans e) c2 c1 (.inr c3) c4 c5,q'⟩
end
end L2
namespace My
open PySem PySem.Spec PyProof.Rows L2
variable {P:Program} {w:World} {K:ko} {mg:Str→Option Value} {base:Heap}
theorem JX {n:Nat} {g:TG} {tc:TT} {te:TE} {R:Hp→Prop} {H:Hp} {l:Addr} {σ0:L2.St} (Pv:Nat→List V→L2.St→Hp→Prop) (h0:Pv 0 [] σ0 (upd H l (.lst [])))
  (hs:∀(i:Nat) ys σ H,i < n→Pv i ys σ H→g (.int (i:Int)) σ H fun σ2 H4=>tc σ2 H4 fun b H5=>if b=true then te σ2 H5 fun v H6=>H6 l=some (.lst ys)∧ys.length < sizeLine∧∃m',m' < n - i∧m'=n - (i+1)∧i+1≤n∧Pv (i+1) (ys++[v]) σ2 (upd H6 l (.lst (ys++[v])))
   else ∃m',m' < n - i∧m'=n - (i+1)∧i+1≤n∧Pv (i+1) ys σ2 H5) (hd:∀ys σ H,Pv n ys σ H→R H):
  ∃W:Nat→Nat→List V→L2.St→Hp→Prop,(∃m,W 0 m [] σ0 (upd H l (.lst [])))∧∀i m ys σ' H2,W i m ys σ' H2→
   ((Itr 0 n).stop i H2∧R H2)∨((Itr 0 n).go i H2∧∀x H3,(Itr 0 n).yld i H2 x H3→g x σ' H3 fun σ2 H4=>tc σ2 H4 fun b H5=>if b=true then te σ2 H5 fun v H6=>H6 l=some (.lst ys)∧ys.length < sizeLine∧∃m',m' < m∧W (i+1) m' (ys++[v]) σ2 (upd H6 l (.lst (ys++[v])))
    else ∃m',m' < m∧W (i+1) m' ys σ2 H5):=by
 refine ⟨fun i m ys σ H=>m=n - i∧i≤n∧Pv i ys σ H,⟨n,by simp,Nat.zero_le _,h0⟩,?_⟩
 rintro i m ys σ H ⟨rfl,hi,p⟩
 by_cases hlt:i < n
 ·refine .inr ⟨hlt,fun x H' y=>?_⟩
  obtain ⟨e,e2⟩:=y
  subst e
  have e2:x=.int (i:Int):=by rw [e2,Int.zero_add]
  subst e2
  exact hs i ys σ _ hlt p
 ·have e:i=n:=by lia
  subst e
  exact .inl ⟨kc _,hd ys σ H p⟩
theorem qI {i:Nat} {x:V} {σ:L2.St} {H:Hp} {Q:L2.St→Hp→Prop} (h:Q (σ.set i (some x)) H):z1U i x σ H Q:=h
theorem nd1 (x:Str):[x].Nodup:=by simp
theorem cut1 (xs:List V):cutV xs (some 1) none=xs.drop 1:=by
 unfold cutV HT.sIx
 cases xs with
 | nil=>rfl
 | cons x xs=>simp
section
def spBb (K:ko):Sp:=fun vs H Q _=>∃l as rs p,vs=[.ref l,.int (p:Nat)]∧SqL K H l (as.map V.ref)∧zP H as rs∧p < rs.length∧∀H',Same H H'→Q (.bl (jq rs p)) H'
theorem sc56:zn ["code","place","ahead"] ["code","place"] (ze (top 56)):=fsM
theorem z8b (D:zi K mg "begins_block" (top 56)) (T:z2a w K mg):FN P w K mg base 1 "begins_block" ["code","place"] (spBb K):=by
 refine FN.o D sc56 fun f cdv A outer s H vs Q E hr h=>?_
 obtain ⟨l,as,rs,p,rfl,hS,hR,hp,q⟩:=h
 obtain ⟨a1,ma1,ta1⟩:=T.jumping
 refine ⟨_,z8 (qg (PW.pt (Qs (zr jA (pv 1) zh (zB _)) (Ze (zr jA (qa qH (qa zK (pv 0) (pv 1) (fun _ _=>rfl)) zh (fun _ _=>rfl)) zq (zB _))))) (zf (zv Qc)) zH)
  (z8 (zC (i:=2) sc56.nd rfl (Or.inl rfl) (qa qH (qa zK (pv 0) (zO j3 (pv 1) zh) (fun _ _=>rfl)) zh (fun _ _=>rfl)))
  (zf (zv (z5K (qZ qO (pv 2) (Z3 rfl ma1 (v:=.ref a1) rfl) rfl) (jg (qZ qO (pv 2) (qY (z6 zq (z6 zq z7))) rfl)))))),?_⟩
 obtain ⟨r,er⟩:∃r,rs[p]?=some r:=⟨rs[p],kH hp⟩
 obtain ⟨ra,hra,har⟩:=hR.get' er
 have eo:opAt rs p=r.op:=by unfold opAt;rw [er]
 refine ⟨_,rfl,rfl,_,rfl,?_⟩
 by_cases h0:p=0
 ·subst h0
  refine iteT (iteT ?_)
  have:jq rs 0=true:=by unfold jq;simp
  rw [this] at q
  exact q H fun _ _ e=>e
 ·have hne:decide (V.int ((p:Nat):Int)=V.int 0)=false:=kf fun z=>h0 (by injection z with z;lia)
  rw [hne]
  refine iteF ⟨_,rfl,_,rfl,l,_,_,_,rfl,rfl,hS,zy hra,ra,_,_,_,rfl,rfl,SqT.of har,zy (j:=0) rfl,rfl,_,rfl,?_⟩
  by_cases hl:r.op="label"
  ·rw [kg (show V.str r.op=V.str "label" by rw [hl])]
   refine iteT ?_
   have:jq rs p=true:=by unfold jq;rw [eo,kg hl];simp
   rw [this] at q
   exact q H fun _ _ e=>e
  ·rw [kf (show ¬V.str r.op=V.str "label" from fun z=>hl (by injection z))]
   refine iteF ?_
   obtain ⟨r',er'⟩:∃r,rs[p - 1]?=some r:=⟨rs[p - 1]'(by lia),kH (by lia)⟩
   obtain ⟨rb,hrb,hbr⟩:=hR.get' er'
   have eo':opAt rs (p - 1)=r'.op:=by unfold opAt;rw [er']
   have ej:((p:Nat):Int) - 1=((p - 1:Nat):Int):=by lia
   refine ⟨_,rfl,_,rfl,_,_,rfl,rfl,l,_,_,_,rfl,rfl,hS,by rw [ej];exact zy hrb,rb,_,_,_,rfl,rfl,SqT.of hbr,zy (j:=0) rfl,?_⟩
   have hh:jq rs p=(inT r'.op jumping||inT r'.op ["return","raise"]):=by
    unfold jq z6g
    rw [eo,eo',kf h0,kf hl,Bool.false_or,Bool.false_or]
   rw [hh] at q
   refine ⟨_,rfl,a1,_,rfl,.inr (ta1.sq _),rfl,jk _,?_⟩
   refine ⟨_,rfl,?_⟩
   cases hj:inT r'.op jumping with
   | true=>
    rw [show inV (.str r'.op) (jumping.map V.str)=true from hj]
    rw [hj] at q
    exact iteT (q H fun _ _ e=>e)
   | false=>
    rw [show inV (.str r'.op) (jumping.map V.str)=false from hj]
    rw [hj] at q
    refine iteF ⟨_,rfl,by show 2≤sizeLine;decide,fun t ht=>⟨t,_,rfl,.inr (SqT.of zb),rfl,rfl,?_⟩⟩
    exact q _ (zk ht _)
noncomputable def nats (l:List Nat):List V:=l.map fun j:Nat=>V.int (j:Int)
theorem zD (l:List Nat):(nats l).length=l.length:=by unfold nats;rw [kh]
theorem qK (n:Nat) (p:Nat→Bool):qc (n+1) p=qc n p++(if p n=true then [n] else []):=by
 unfold qc
 rw [List.range_succ,List.filter_append,List.filter_cons]
 cases p n <;> rfl
noncomputable def z7r:Scope:=match (zW (top 57)).getD 0 (.Pass ⟨0,0,0,0⟩) with
 | .Assign _ (.ListComp _ _ s _) _=>s
 | _=>ze (top 57)
noncomputable def cl57 (L:Addr):List (Str × Addr):=[("code",L+1)]
noncomputable def nm57:List (Str × NameKind):=[(".0",.local),("place",.local),("begins_block",.globalImplicit),("code",.cell)]
theorem sc57:zn ["code","firsts"] ["code"] (ze (top 57)):=fsM
theorem cs57 {f:Addr} {cdv:Value} {A:Around} {outer:List Env} {s:Shared} {H:Hp} {E:XK}:
  qf (cxOf CX0 P w K mg base ["code","firsts"] "parts" (ze (top 57)) f cdv A outer s H E).nox ["place","code"] 1 [0] z7r (cl57 s.heap.objs.size):=
 qf.mk3 (nm:=nm57) (ks:=(cl57 0).map Prod.fst) rfl rfl ⟨by trivial,by trivial⟩ rfl rfl rfl (by trivial) rfl rfl rfl rfl
def z2u (K:ko):Sp:=fun vs H Q _=>∃l as rs,vs=[.ref l]∧SqL K H l (as.map V.ref)∧zP H as rs∧1≤rs.length∧rs.length≤150∧
 ∀f ps H',Same H H'→H f=none→H' f=some (.lst (ps.map V.ref))→jl H' ps (jW (nats (zt rs)) (nats (Zq rs)))→Q (.ref f) H'
theorem z4G (D:zi K mg "parts" (top 57)) (G:Glo mg) (FB:FN P w K mg base 1 "begins_block" ["code","place"] (spBb K)):FN P w K mg base 2 "parts" ["code"] (z2u K):=by
 refine FN.o D sc57 fun f cdv A outer s H vs Q E hr h=>?_
 obtain ⟨l,as,rs,rfl,hS,hR,h1,h2,q⟩:=h
 have nd:(["place","code"]:List Str).Nodup:=by trivial
 refine ⟨_,z8 (jp (i:=1) (N:=["place","code"]) (nt:=1) (ix:=[0]) (cl:=cl57 s.heap.objs.size) rfl sc57.nd rfl (Or.inl rfl) cs57 (qM rfl G.range (z6 (zw zx rfl G.len zS (z6 (pv 0) z7)) z7)) (fun _ _ _ _=>zu (i:=0) nd rfl (Or.inl rfl))
   (fun _ _ _ _=>Q6 (je (zp FB hr rfl (z6 (pv 1) (z6 (pv 0) z7))))) (fun _ _ _ _=>pv 0))
  (zf (zv (z1B rfl rfl G.list rfl G.zip (z6 (pv 1) (z6 (zO z5h (z0V z5E (pv 1) (z2K zh) z2L) (qe (z6 (zw zx rfl G.len zS (z6 (pv 0) z7)) z7))) z7))))),?_⟩
 have hll:as.length=rs.length:=hR.len
 refine ⟨_,rfl,l,_,rfl,.inl hS,_,rfl,by lia,by rw [kh];lia,fun fr hfr=>JX (n:=(as.map V.ref).length) (fun i ys σ H4=>(∃x:Option V,σ=[x,some (.ref l)])∧ys=nats (qc i (jq rs))∧Same H H4∧H4 fr=some (.lst ys)) ⟨⟨none,rfl⟩,rfl,zk hfr _,zb⟩ ?_ ?_⟩
 ·rintro i ys σ H4 hi ⟨⟨x,rfl⟩,rfl,s4,hn4⟩
  rw [kh] at hi
  have hlen:(nats (qc i (jq rs))).length≤i:=by rw [zD];exact qE _ _
  refine qI ?_
  refine ⟨_,rfl,_,rfl,l,as,rs,i,rfl,s4.seq hS,hR.same s4,by lia,fun H5 s5=>⟨_,rfl,?_⟩⟩
  have fin:∀H6,Same H H6→H6 fr=some (.lst (nats (qc i (jq rs))))→jq rs i=true→Same H (upd H6 fr (.lst (nats (qc i (jq rs))++[.int (i:Nat)])))∧nats (qc i (jq rs))++[.int (i:Nat)]=nats (qc (i+1) (jq rs)):=fun H6 s6 hn6 hb=>⟨fun b o e=>by rw [zg (zc e hfr)];exact s6 _ _ e,by rw [qK,kr hb];unfold nats;rw [kG];rfl⟩
  cases hb:jq rs i with
  | true=>
   obtain ⟨f1,f2⟩:=fin H5 (s4.trans s5) (s5 _ _ hn4) hb
   exact iteT ⟨_,rfl,s5 _ _ hn4,q0 (by lia),as.length - (i+1),by rw [kh];lia,by rw [kh],by rw [kh];lia,⟨_,rfl⟩,f2,f1,zb⟩
  | false=>
   refine iteF ⟨as.length - (i+1),by rw [kh];lia,by rw [kh],by rw [kh];lia,⟨_,rfl⟩,?_,s4.trans s5,s5 _ _ hn4⟩
   rw [qK,hb]
   simp
 ·rintro ys σ H4 ⟨_,rfl,s4,hn4⟩
  rw [kh,hll] at hn4
  have efm:qc rs.length (jq rs)=zt rs:=rfl
  rw [efm] at hn4
  have hlen:(zt rs).length≤rs.length:=qE _ _
  have hpos:0 < (zt rs).length:=List.length_pos_of_mem (ZD h1)
  refine ⟨_,rfl,_,rfl,_,rfl,fr,_,rfl,SqL.of hn4,fun p2 hp2=>?_⟩
  rw [cut1]
  have s5:=zk hp2 (.lst ((nats (zt rs)).drop 1))
  refine ⟨_,rfl,l,_,rfl,.inl ((s4.trans s5).seq hS),by show 1≤sizeLine;decide,fun p3 hp3=>?_⟩
  have s6:=zk hp3 (.lst [V.int ((as.map V.ref).length:Nat)])
  refine ⟨p2,p3,_,_,rfl,rfl,s6 _ _ zb,zb,?_,fun p4 hp4=>?_⟩
  ·rw [List.length_drop,zD]
   show _+1≤sizeLine
   rw [sizeLine_eq]
   lia
  have s7:=zk hp4 (.lst ((nats (zt rs)).drop 1++[V.int ((as.map V.ref).length:Nat)]))
  have ee:(nats (zt rs)).drop 1++[V.int ((as.map V.ref).length:Nat)]=nats (Zq rs):=by
   rw [kh,hll]
   unfold Zq nats
   rw [kG,List.map_drop]
   rfl
  have s57:=(s5.trans s6).trans s7
  refine ⟨fr,p4,nats (zt rs),nats (Zq rs),rfl,SqL.of (s57 _ _ hn4),SqL.of (by rw [←ee];exact zb),?_,by rw [zD];lia,by rw [zD];lia,fun lf ps H' sL hlf h1' h2'=>?_⟩
  ·rw [zD,zD,Jc h1]
  ·exact q lf ps H' ((s4.trans s57).trans sL) ((s4.trans s57).free hlf) h1' h2'
end
theorem QJ {K:ko} {a:Addr} {xs:List V} {g:TG} {tc:TT} {tm:Addr→L2.St→Hp→(Hp→Prop)→Prop} {R:Hp→Prop} {H1:Hp} {l:Addr} {σ0:L2.St} (Pv:Nat→L2.St→Hp→Prop) (h0:Pv 0 σ0 H1) (hl:∀i σ H,i≤xs.length→Pv i σ H→SqL K H a xs)
  (hs:∀(i:Nat) x σ H,xs[i]?=some x→Pv i σ H→g x σ H fun σ2 H4=>tc σ2 H4 fun b H5=>if b=true then tm l σ2 H5 fun H6=>∃m',m' < xs.length - i∧m'=xs.length - (i+1)∧i+1≤xs.length∧Pv (i+1) σ2 H6
   else ∃m',m' < xs.length - i∧m'=xs.length - (i+1)∧i+1≤xs.length∧Pv (i+1) σ2 H5) (hd:∀σ H,Pv xs.length σ H→R H):
  ∃W:Nat→Nat→L2.St→Hp→Prop,(∃m,W 0 m σ0 H1)∧∀i m σ' H2,W i m σ' H2→
   ((Itl K a).stop i H2∧R H2)∨((Itl K a).go i H2∧∀x H3,(Itl K a).yld i H2 x H3→g x σ' H3 fun σ2 H4=>tc σ2 H4 fun b H5=>if b=true then tm l σ2 H5 fun H6=>∃m',m' < m∧W (i+1) m' σ2 H6
    else ∃m',m' < m∧W (i+1) m' σ2 H5):=by
 refine ⟨fun i m σ H=>m=xs.length - i∧i≤xs.length∧Pv i σ H,⟨xs.length,by simp,Nat.zero_le _,h0⟩,?_⟩
 rintro i m σ H ⟨rfl,hi,p⟩
 have q:=hl i σ H hi p
 by_cases hlt:i < xs.length
 ·refine .inr ⟨⟨xs,_,q,kH hlt⟩,fun x H' y=>?_⟩
  obtain ⟨e,e2⟩:=y
  subst e
  exact hs i x σ _ (e2 xs q) p
 ·have e:i=xs.length:=by lia
  subst e
  exact .inl ⟨⟨xs,q,kc _⟩,hd σ H p⟩
abbrev zL (H:Hp):List Addr→List (List Nat)→Prop:=Paired fun a ns=>H a=some (.lst (nats ns))
theorem zL.keep {H H':Hp} {ls:List Addr} {Ns:List (List Nat)} (h:zL H ls Ns) (k:∀a o,a∈ls→H a=some o→H' a=some o):zL H' ls Ns:=by
 refine ji (Paired.length h) fun j a ns ea en=>?_
 induction h generalizing j with
 | nil=>simp at ea
 | cons r t ih=>
  cases j with
  | zero=>
   cases ea
   cases en
   exact k _ _ (kM ..) r
  | succ j=>exact ih (fun a o ha=>k a o (kN _ ha)) j (by simpa using ea) (by simpa using en)
theorem zL.append {H:Hp}:∀{as bs:List Addr} {gs hs:List (List Nat)},zL H as gs→zL H bs hs→zL H (as++bs) (gs++hs)
 | _,_,_,_,.nil,s=>s
 | _,_,_,_,.cons r t,s=>.cons r (zL.append t s)
theorem zL.get {H:Hp} {ls:List Addr} {Ns:List (List Nat)} (h:zL H ls Ns):∀{j:Nat} {ns:List Nat},Ns[j]?=some ns→∃a,ls[j]?=some a∧H a=some (.lst (nats ns)):=by
 induction h with
 | nil=>intro j ns e;simp at e
 | cons r t ih=>
  intro j ns e
  cases j with
  | zero=>cases e;exact ⟨_,rfl,r⟩
  | succ j=>
   obtain ⟨a,h1,h2⟩:=ih (j:=j) (ns:=ns) (by simpa using e)
   exact ⟨a,by simpa using h1,h2⟩
section
theorem sc55:zn ["code","found","labels","goals","place","state","behind"] ["code"] (ze (top 55)):=fsM
def Js (K:ko):Sp:=fun vs H Q _=>∃l as rs fin,vs=[.ref l]∧H l=some (.lst (as.map V.ref))∧zP H as rs∧Code rs∧qR rs=some fin∧
 ∀gl ls H',Same H H'→H gl=none→H' gl=some (.lst (ls.map V.ref))→zL H' ls ((List.range rs.length).map (qq rs fin))→Q (.ref gl) H'
def NsOf (rs:List Row) (fin:Fnd) (i:Nat) (ns:List (V × Sta)):Prop:=(fin[i]?=some none∧ns=[])∨∃r st,rs[i]?=some r∧fin[i]?=some (some st)∧ns=j7 rs i r st
theorem NsOf.goal {rs:List Row} {fin:Fnd} {i:Nat} {ns:List (V × Sta)} (h:NsOf rs fin i ns) (hi:i < rs.length):qq rs fin i=qc rs.length fun j=>ns.any fun n=>decide (n.1=.int (j:Int)):=by
 unfold qq
 rcases h with ⟨e,rfl⟩ | ⟨r,st,e1,e2,rfl⟩
 ·rw [e,kH hi]
  dsimp only
  unfold qc
  simp
 ·rw [e1,e2]
theorem NsOf.len {rs:List Row} {fin:Fnd} {i:Nat} {ns:List (V × Sta)} (h:NsOf rs fin i ns):ns.length≤3:=by
 rcases h with ⟨e,rfl⟩ | ⟨r,st,e1,e2,rfl⟩
 ·exact Nat.zero_le _
 ·unfold j7
  rw [kh]
  exact Qg _ _ _ _ _
theorem NsOf.num {rs:List Row} {fin:Fnd} {i:Nat} {ns:List (V × Sta)} (B:BInv rs fin []) (h:NsOf rs fin i ns):∀n∈ns,∃j:Nat,n.1=.int (j:Int)∧j < rs.length:=by
 rcases h with ⟨e,rfl⟩ | ⟨r,st,e1,e2,rfl⟩
 ·intro n hn
  cases hn
 ·intro n hn
  rcases B.done i st e2 with z | ⟨r',a1,a2,a3,a4⟩
  ·cases z
  ·rw [e1] at a1
   cases a1
   obtain ⟨j,b1,b2⟩:=a4 n.1 n.2 hn
   exact ⟨j,b1,by rw [←B.len];exact (ke.mp b2).1⟩
def tBeh (K:ko) (l:Addr) (rs:List Row) (fin:Fnd):TE:=fun σ H3 Q=>∃(d:Addr) (i:Nat) (v1 v3:Option V) (x:V) (v6:Option V),σ=[some (.ref l),v1,some (.ref d),v3,some (.int (i:Nat)),some x,v6]∧jY K H3 l d rs∧i < rs.length∧
 ((fin[i]?=some none∧x=.non)∨∃st a,fin[i]?=some (some st)∧x=.ref a∧StA K H3 a st∧st.2.length≤1000)∧∀bl ts ns H4,Same H3 H4→H3 bl=none→H4 bl=some (.lst (ts.map V.ref))→NxIn K H4 ts ns→NsOf rs fin i ns→Q (.ref bl) H4
def tSrt (K:ko) (n:Nat):TE:=fun σ H3 Q=>∃bl ts ns,σ[6]?=some (some (.ref bl))∧H3 bl=some (.lst (ts.map V.ref))∧NxIn K H3 ts ns∧ns.length≤3∧(∀m∈ns,∃j:Nat,m.1=.int (j:Int)∧j < n)∧
 ∀sl H4,Same H3 H4→H3 sl=none→H4 sl=some (.lst (nats (qc n fun j=>ns.any fun m=>decide (m.1=.int (j:Int)))))→Q (.ref sl) H4
theorem z1Y (D:zi K mg "follows" (top 55)) (G:Glo mg) (FS:FN P w K mg base 10 "states" ["code"] (z0O K)) (FL:FN P w K mg base 7 "label_places" ["rows"] (z0P K)) (FX:FN P w K mg base 4 "next_states" ["code","labels","place","state"] (Jq K)):FN P w K mg base 11 "follows" ["code"] (Js K):=by
 refine FN.o D sc55 fun f cdv A outer s H vs Q E hr h=>?_
 obtain ⟨l,as,rs,fin,rfl,hl,hR,hc,hfin,q⟩:=h
 have ndg:(["goal","after"]:List Str).Nodup:=by trivial
 have hr7:=hr.mono (show 7≤10 by decide)
 have hr4:=hr.mono (show 4≤10 by decide)
 refine ⟨_,z8 (zC (i:=1) sc55.nd rfl (Or.inl rfl) (zp FS hr rfl (z6 (pv 0) z7)))
  (z8 (zC (i:=2) sc55.nd rfl (Or.inl rfl) (zp FL hr7 rfl (z6 (pv 0) z7)))
  (z8 (zC (i:=3) sc55.nd rfl (Or.inl rfl) (qe z7))
  (z8 (jf PassesOwn.never rfl (QV rfl G.enumerate (z6 (pv 1) z7)) (jU rfl (zA (zu (i:=4) sc55.nd rfl (Or.inl rfl)) (zA (zu (i:=5) sc55.nd rfl (Or.inl rfl)) qA)))
   (z8 (zC (i:=6) sc55.nd rfl (Or.inl rfl) (PE.imp (t':=tBeh K l rs fin) (j9 (zr QB (pv 5) qU (zB _)) (qe z7) (zp FX hr4 rfl (z6 (pv 0) (z6 (pv 2) (z6 (pv 4) (z6 (pv 5) z7)))))) ?m1))
   (zf (zj (jV (pv 3) (z6 (PE.imp (t':=tSrt K rs.length) (zw (Zr rfl) rfl G.sorted PyProof.Rows.boot_sorted (z6
    (Qb (N:=["goal","after"]) (nt:=2) (ix:=[]) (cl:=[]) rfl (qf.plain (by trivial) (by trivial) rfl (by trivial) rfl) (jd (pv 6))
     (fun _ _ _ _=>Zz (K:=K) (n:=2) rfl rfl (zA (zu (i:=0) ndg rfl (Or.inl rfl)) (zA (zu (i:=1) ndg rfl (Or.inl rfl)) qA))) (fun _ _ _ _=>Q7) (fun _ _ _ _=>pv 0)) z7)) ?m2) z7))))))
  (zf (zv (pv 3)))))),?_⟩
 case m1=>
  rintro σ H3 Q' ⟨d,i,v1,v3,x,v6,rfl,hC,hi,hx,k⟩
  refine ⟨_,rfl,rfl,_,rfl,?_⟩
  rcases hx with ⟨e,rfl⟩ | ⟨st,a,e,rfl,hst,hz⟩
  ·refine iteT ⟨Nat.zero_le _,fun bl hbl=>?_⟩
   exact k bl [] [] _ (zk hbl _) hbl zb .nil (.inl ⟨e,rfl⟩)
  ·refine iteF ⟨_,rfl,_,rfl,_,rfl,_,rfl,l,d,i,a,st,rs,rs[i],rfl,hC,kH hi,hst,hz,fun bl ts H4 s4 hbl h4 hN=>?_⟩
   exact k bl ts _ H4 s4 hbl h4 hN (.inr ⟨_,_,kH hi,e,rfl⟩)
 case m2=>
  rintro σ H3 Q' ⟨bl,ts,ns,eσ,hb,hN,hn3,hnum,k⟩
  have hlen:ts.length=ns.length:=Paired.length hN
  refine ⟨_,eσ,bl,rfl,⟨_,SqL.of hb⟩,fun sl hsl=>QJ (K:=K) (a:=bl) (xs:=ts.map V.ref) (l:=sl) (fun i σ' H4=>(∃x y:Option V,σ'=[x,y])∧Same H3 H4∧∃ks,H4 sl=some (jG P w sl ks)∧ks.Nodup∧ks.length≤i∧∀z,z∈ks↔∃m∈ns.take i,m.1=.int z)
   ⟨⟨none,none,rfl⟩,zk hsl _,[],zb,.nil,kc _,fun z=>by simp⟩ (fun i σ' H4 _ ⟨_,s4,_⟩=>s4.seq (SqL.of hb)) ?_ ?_⟩
  ·rintro i x σ' H4 hi ⟨⟨x0,y0,rfl⟩,s4,ks,hs4,nd,hk,hm⟩
   obtain ⟨tt,m,a,rfl,em,ht,hst⟩:=NxIn.get (hN.keep (qx.of s4)) hi
   have hil:i < ns.length:=(ke.mp em).1
   obtain ⟨j,ej,hj⟩:=hnum m (kD em)
   refine ⟨tt,_,rfl,SqT.of ht,rfl,_,_,rfl,_,_,rfl,rfl,?_⟩
   refine Q2 ⟨_,rfl,ks,(j:Int),ej,hs4,by lia,(ts.map V.ref).length - (i+1),by rw [kh];lia,rfl,by rw [kh];lia,⟨_,_,rfl⟩,fun b o e=>by rw [zg (zc e hsl)];exact s4 _ _ e,addI ks j,zb,z3Q nd,?_,fun z=>?_⟩
   ·have:(addI ks (j:Int)).length≤ks.length+1:=by
     unfold addI
     split
     ·lia
     ·simp
    lia
   ·rw [J3,qj em,hm z]
    constructor
    ·rintro (⟨m',h1,h2⟩ | rfl)
     ·exact ⟨m',kK _ h1,h2⟩
     ·exact ⟨m,by simp,ej⟩
    ·rintro ⟨m',h1,h2⟩
     rcases kO.mp h1 with h | h
     ·exact .inl ⟨m',h,h2⟩
     ·rw [kl.mp h,ej] at h2
      injection h2 with h2
      exact .inr h2.symm
  ·rintro σ' H4 ⟨_,s4,ks,hs4,nd,hk,hm⟩
   rw [kh,hlen] at hk
   rw [kh,hlen,List.take_length] at hm
   refine ⟨sl,ks,rfl,hs4,by lia,fun dl ks' hdl hp hs=>?_⟩
   have hsn:=s4.free hdl
   have hds:dl≠sl:=fun z=>by rw [z,hs4] at hdl;cases hdl
   refine k dl _ (s4.trans (zk hdl _)) hsn ?_
   rw [zb]
   have:=Ju (l:=qc rs.length fun j=>ns.any fun m=>decide (m.1=.int (j:Int))) hp hs nd (Zc _ _) fun z=>?_
   ·rw [this]
    unfold nats
    rw [List.map_map]
    rfl
   ·rw [hm z]
    constructor
    ·rintro ⟨m,h1,h2⟩
     obtain ⟨j,ej,hj⟩:=hnum m h1
     rw [ej] at h2
     injection h2 with h2
     exact ⟨j,qk.mpr ⟨hj,List.any_eq_true.mpr ⟨m,h1,kg ej⟩⟩,h2.symm⟩
    ·rintro ⟨j,hj,rfl⟩
     obtain ⟨_,h2⟩:=qk.mp hj
     obtain ⟨m,h1,h2⟩:=List.any_eq_true.mp h2
     exact ⟨m,h1,kw h2⟩
 have B:=z0f (by have:=hc.lo;lia) hfin
 have hhi:=hc.hi
 refine ⟨_,rfl,l,as,rs,fin,rfl,hl,hR,hc,hfin,fun fl fvs H1 s1 hfl hf1 hF1=>?_⟩
 refine ⟨_,rfl,l,as,rs,rfl,SqL.of (s1 _ _ hl),hR.same s1,hc.ok,by have:=hc.hi;lia,fun d kvs H2 hd s2 hd2 hL=>?_⟩
 refine ⟨Nat.zero_le _,fun gl hgl=>?_⟩
 have hC2:jY K H2 l d rs:=⟨⟨as,SqL.of (s2 _ _ (s1 _ _ hl)),(hR.same s1).same s2⟩,hc,kvs,hd2,hL⟩
 have hF2:=hF1.keep (qx.of s2)
 have hfl2:=s2 _ _ hf1
 have hfvs:fvs.length=fin.length:=Paired.length hF1
 have hrl:=B.len
 refine ⟨_,rfl,fl,rfl,⟨_,(zk hgl _).seq (SqL.of hfl2)⟩,Jb (K:=K) (a:=fl) (xs:=fvs) (fun i σ H3=>∃(v4 v5 v6:Option V) (ls:List Addr),σ=[some (.ref l),some (.ref fl),some (.ref d),some (.ref gl),v4,v5,v6]∧Same H2 H3∧H3 gl=some (.lst (ls.map V.ref))∧ls.length=i∧(∀x∈ls,x≠gl)∧zL H3 ls (((List.range rs.length).map (qq rs fin)).take i))
  ⟨none,none,none,[],rfl,zk hgl _,zb,rfl,(fun x hx=>by cases hx),.nil⟩ (fun i σ H3 _ ⟨_,_,_,_,_,s3,_⟩=>s3.seq (SqL.of hfl2)) ?_ ?_⟩
 ·rintro i x σ H3 p hi ⟨v4,v5,v6,ls,rfl,s3,hg3,hln,hne,hLi⟩ hp
  have hil:i < rs.length:=by
   have:=(ke.mp hi).1
   lia
  have sp:=zk hp (.tup [.int i,x])
  have s3p:=s3.trans sp
  refine ⟨p,_,rfl,SqT.of zb,rfl,_,_,rfl,_,_,rfl,rfl,?_⟩
  obtain ⟨o,eo⟩:∃o,fin[i]?=some o:=⟨fin[i]'(by lia),kH (by lia)⟩
  obtain ⟨x',ex,hx'⟩:=(hF2.keep (qx.of s3p)).get eo
  rw [hi] at ex
  cases ex
  refine ⟨d,i,_,_,x,_,rfl,hC2.same s3p,hil,?_,fun bl ts ns H4 s4 hbl hb4 hN hns=>?_⟩
  ·cases o with
   | none=>exact .inl ⟨eo,hx'⟩
   | some st=>
    obtain ⟨a,rfl,hst⟩:=hx'
    refine .inr ⟨st,a,eo,rfl,hst,?_⟩
    rcases B.done i st eo with z | ⟨r',a1,a2,a3,a4⟩
    ·cases z
    ·exact a3
  ·have hg4:=s4 _ _ (sp _ _ hg3)
   refine ⟨_,rfl,.inl ⟨rfl,_,SqL.of hg4⟩,bl,ts,ns,rfl,hb4,hN,hns.len,hns.num B,fun sl H5 s5 hsl hs5=>?_⟩
   have hg5:=s5 _ _ hg4
   have hsg:sl≠gl:=fun z=>by rw [z,hg4] at hsl;cases hsl
   refine ⟨gl,_,.ref sl,rfl,rfl,hg5,q0 (by rw [kh];lia),?_⟩
   have s35:Same H3 H5:=(sp.trans s4).trans s5
   refine ⟨_,_,_,ls++[sl],rfl,fun b o' e=>?_,?_,by simp [hln],?_,?_⟩
   ·rw [zg (zc e hgl)]
    exact s35 _ _ (s3 _ _ e)
   ·rw [zb,kG]
    rfl
   ·intro y hy
    rcases kO.mp hy with h | h
    ·exact hne y h
    ·rw [kl.mp h]
     exact hsg
   ·have hg:((List.range rs.length).map (qq rs fin))[i]?=some (qq rs fin i):=by simp [hil]
    rw [qj hg]
    refine zL.append (hLi.keep fun a o' ha e=>?_) (.cons ?_ .nil)
    ·rw [zg (hne a ha)]
     exact s35 _ _ e
    ·rw [zg hsg,hs5,hns.goal hil]
 ·rintro σ H3 ⟨v4,v5,v6,ls,rfl,s3,hg3,hln,hne,hLi⟩
  rw [List.take_of_length_le (by simp;lia)] at hLi
  exact ⟨_,rfl,q gl ls H3 ((s1.trans s2).trans s3) ((s1.trans s2).free hgl) hg3 hLi⟩
end
theorem z24 {K:ko} {a:Addr} {xs:List V} {g:TG} {tc:TT} {tm:Addr→L2.St→Hp→(Hp→Prop)→Prop} {R:Hp→Prop} {H1:Hp} {l:Addr} {σ0:L2.St} (Pv:Nat→L2.St→Hp→Prop) (h0:Pv 0 σ0 H1) (hl:∀i σ H,i≤xs.length→Pv i σ H→SqL K H a xs)
  (hs:∀(i:Nat) x σ H p,xs[i]?=some x→Pv i σ H→H p=none→g (.ref p) σ (upd H p (.tup [.int i,x])) fun σ2 H4=>tc σ2 H4 fun b H5=>if b=true then tm l σ2 H5 fun H6=>∃m',m' < xs.length - i∧m'=xs.length - (i+1)∧i+1≤xs.length∧Pv (i+1) σ2 H6
   else ∃m',m' < xs.length - i∧m'=xs.length - (i+1)∧i+1≤xs.length∧Pv (i+1) σ2 H5) (hd:∀σ H,Pv xs.length σ H→R H):
  ∃W:Nat→Nat→L2.St→Hp→Prop,(∃m,W 0 m σ0 H1)∧∀i m σ' H2,W i m σ' H2→
   ((Ite K a).stop i H2∧R H2)∨((Ite K a).go i H2∧∀x H3,(Ite K a).yld i H2 x H3→g x σ' H3 fun σ2 H4=>tc σ2 H4 fun b H5=>if b=true then tm l σ2 H5 fun H6=>∃m',m' < m∧W (i+1) m' σ2 H6
    else ∃m',m' < m∧W (i+1) m' σ2 H5):=by
 refine ⟨fun i m σ H=>m=xs.length - i∧i≤xs.length∧Pv i σ H,⟨xs.length,by simp,Nat.zero_le _,h0⟩,?_⟩
 rintro i m σ H ⟨rfl,hi,p⟩
 have q:=hl i σ H hi p
 by_cases hlt:i < xs.length
 ·refine .inr ⟨⟨xs,_,q,kH hlt⟩,fun x H' y=>?_⟩
  obtain ⟨pa,z,e,hp,e2,e3⟩:=y
  subst e e2
  exact hs i z σ _ pa (e3 xs q) p hp
 ·have e:i=xs.length:=by lia
  subst e
  exact .inl ⟨⟨xs,q,kc _⟩,hd σ H p⟩
abbrev z3U (J2:It) (g2:TG) (te:TE) (l:Addr) (ys:List V) (σ2:L2.St) (H5:Hp) (Fin:List V→L2.St→Hp→Prop):Prop:=∃W2:Nat→Nat→List V→L2.St→Hp→Prop,(∃m2,W2 0 m2 ys σ2 H5)∧∀i2 m2 ys2 σ3 H6,W2 i2 m2 ys2 σ3 H6→
    (J2.stop i2 H6∧Fin ys2 σ3 H6)∨(J2.go i2 H6∧∀x H7,J2.yld i2 H6 x H7→g2 x σ3 H7 fun σ4 H8=>te σ4 H8 fun v H9=>H9 l=some (.lst ys2)∧ys2.length < sizeLine∧∃m',m' < m2∧W2 (i2+1) m' (ys2++[v]) σ4 (upd H9 l (.lst (ys2++[v]))))
theorem z1Q {K:ko} {a:Addr} {xs:List V} {g2:TG} {te:TE} {l:Addr} {ys:List V} {σ2:L2.St} {H5:Hp} {Fin:List V→L2.St→Hp→Prop} (Pw:Nat→List V→L2.St→Hp→Prop) (h0:Pw 0 ys σ2 H5) (hl:∀j ys σ H,j≤xs.length→Pw j ys σ H→SqL K H a xs)
  (hs:∀(j:Nat) x ys σ H,xs[j]?=some x→Pw j ys σ H→g2 x σ H fun σ4 H8=>te σ4 H8 fun v H9=>H9 l=some (.lst ys)∧ys.length < sizeLine∧∃m',m' < xs.length - j∧m'=xs.length - (j+1)∧j+1≤xs.length∧Pw (j+1) (ys++[v]) σ4 (upd H9 l (.lst (ys++[v])))) (hd:∀ys σ H,Pw xs.length ys σ H→Fin ys σ H):z3U (Itl K a) g2 te l ys σ2 H5 Fin:=by
 refine ⟨fun i m ys σ H=>m=xs.length - i∧i≤xs.length∧Pw i ys σ H,⟨xs.length,by simp,Nat.zero_le _,h0⟩,?_⟩
 rintro i m ys σ H ⟨rfl,hi,p⟩
 have q:=hl i ys σ H hi p
 by_cases hlt:i < xs.length
 ·refine .inr ⟨⟨xs,_,q,kH hlt⟩,fun x H' y=>?_⟩
  obtain ⟨e,e2⟩:=y
  subst e
  exact hs i x ys σ _ (e2 xs q) p
 ·have e:i=xs.length:=by lia
  subst e
  exact .inl ⟨⟨xs,q,kc _⟩,hd ys σ H p⟩
theorem z3E {lo:Int} {n:Nat} {g g2:TG} {wi2:TI} {te:TE} {R:Hp→Prop} {H1:Hp} {l:Addr} {σ0:L2.St} (Pv:Nat→List V→L2.St→Hp→Prop) (h0:Pv 0 [] σ0 H1)
  (hs:∀(i:Nat) ys σ H,i < n→Pv i ys σ H→g (.int (lo+i)) σ H fun σ2 H4=>wi2 σ2 H4 fun J2 H5=>z3U J2 g2 te l ys σ2 H5 fun ys σ H=>∃m',m' < n - i∧m'=n - (i+1)∧i+1≤n∧Pv (i+1) ys σ H) (hd:∀ys σ H,Pv n ys σ H→R H):
  ∃W:Nat→Nat→List V→L2.St→Hp→Prop,(∃m,W 0 m [] σ0 H1)∧∀i m ys σ' H2,W i m ys σ' H2→
   ((Itr lo n).stop i H2∧R H2)∨((Itr lo n).go i H2∧∀x H3,(Itr lo n).yld i H2 x H3→g x σ' H3 fun σ2 H4=>wi2 σ2 H4 fun J2 H5=>z3U J2 g2 te l ys σ2 H5 fun ys2 σ3 H6=>∃m',m' < m∧W (i+1) m' ys2 σ3 H6):=by
 refine ⟨fun i m ys σ H=>m=n - i∧i≤n∧Pv i ys σ H,⟨n,by simp,Nat.zero_le _,h0⟩,?_⟩
 rintro i m ys σ H ⟨rfl,hi,p⟩
 by_cases hlt:i < n
 ·refine .inr ⟨hlt,fun x H' y=>?_⟩
  obtain ⟨e,e2⟩:=y
  subst e e2
  exact hs i ys σ _ hlt p
 ·have e:i=n:=by lia
  subst e
  exact .inl ⟨kc _,hd ys σ H p⟩
theorem z4a {X:Cx} {K:ko} {tg l:Expr} {t:TE} (hK:X.K=K) (h:PE X l t):PI X tg l (z7f K t):=by subst hK;exact jd h
section
noncomputable abbrev N58:List Str:=["code","goals","pairs","first","behind","numbers","found","reached"]
theorem sc58:zn N58 ["code"] (ze (top 58)):=fsM
noncomputable def z5j (k:Nat):Stmt:=match (zW (top 58)).getD 4 (.Pass ⟨0,0,0,0⟩) with
 | .For _ _ b _ _=>b.getD k (.Pass ⟨0,0,0,0⟩)
 | s=>s
noncomputable def z6n:Scope:=match z5j 0 with
 | .Assign _ (.ListComp _ _ s _) _=>s
 | _=>ze (top 58)
noncomputable def z6m:Scope:=match z5j 1 with
 | .Expr (.Call _ [.Call _ [.SetComp _ _ s _] _ _] _ _) _=>s
 | _=>ze (top 58)
noncomputable def z6p (L:Addr):List (Str × Addr):=[("goals",L+1)]
noncomputable def z6o (L:Addr):List (Str × Addr):=[("numbers",L+1+1)]
noncomputable def z7X:List (Str × NameKind):=[(".0",.local),("place",.local),("goal",.local),("goals",.cell)]
noncomputable def z7W:List (Str × NameKind):=[(".0",.local),("goal",.local),("numbers",.cell)]
theorem z8e {f:Addr} {cdv:Value} {A:Around} {outer:List Env} {s:Shared} {H:Hp} {E:XK}:
  qf (cxOf CX0 P w K mg base N58 "links" (ze (top 58)) f cdv A outer s H E).nox ["place","goal","goals"] 2 [1] z6n (z6p s.heap.objs.size):=
 qf.mk3 (nm:=z7X) (ks:=(z6p 0).map Prod.fst) rfl rfl ⟨by trivial,by trivial⟩ rfl rfl rfl (by trivial) rfl rfl rfl rfl
theorem z8d {f:Addr} {cdv:Value} {A:Around} {outer:List Env} {s:Shared} {H:Hp} {E:XK}:
  qf (cxOf CX0 P w K mg base N58 "links" (ze (top 58)) f cdv A outer s H E).nox ["goal","numbers"] 1 [5] z6m (z6o s.heap.objs.size):=
 qf.mk3 (nm:=z7W) (ks:=(z6o 0).map Prod.fst) rfl rfl ⟨by trivial,by trivial⟩ rfl rfl rfl (by trivial) rfl rfl rfl rfl
def z0j (K:ko):Sp:=fun vs H Q _=>∃l as rs fin,vs=[.ref l]∧H l=some (.lst (as.map V.ref))∧zP H as rs∧Code rs∧qR rs=some fin∧
 ∀nl ls H',Same H H'→H nl=none→H' nl=some (.lst (ls.map V.ref))→zL H' ls (j5 rs fin)→(∀x∈ls,x≠nl)→Q (.ref nl) H'
def NumD (kvs:List (Key × V)) (fs:List Nat) (i:Nat):Prop:=(∀(k g:Nat),k < i→fs[k]?=some g→valV kvs (Sum.inl (g:Int):Key)=some (.int (k:Int)))∧∀(z:Int) v,valV kvs (Sum.inl z:Key)=some v→∃(k g:Nat),k < i∧fs[k]?=some g∧z=g∧v=.int (k:Int)
theorem NumD.put {kvs:List (Key × V)} {fs:List Nat} {i g:Nat} (hinc:fs.Pairwise (· < ·)) (h:NumD kvs fs i) (e:fs[i]?=some g):NumD (putK kvs (Sum.inl (g:Int)) (.int (i:Int))) fs (i+1):=by
 refine ⟨fun k g' hk e'=>?_,fun z v ev=>?_⟩
 ·rw [Z8]
  by_cases hki:k=i
  ·subst hki
   rw [e] at e'
   cases e'
   rw [kr rfl]
  ·rw [kq fun z=>?_]
   ·exact h.1 k g' (by lia) e'
   ·have:g'=g:=by
     injection z with z
     lia
    subst this
    obtain ⟨h1,e1⟩:=ke.mp e
    obtain ⟨h2,e2⟩:=ke.mp e'
    have:=List.pairwise_iff_getElem.mp hinc k i h2 h1 (by lia)
    lia
 ·rw [Z8] at ev
  by_cases hz:(Sum.inl z:Key)=Sum.inl (g:Int)
  ·rw [kr hz] at ev
   cases ev
   injection hz with hz
   exact ⟨i,g,kX _,e,hz,rfl⟩
  ·rw [kq hz] at ev
   obtain ⟨k,g',h1,h2,h3,h4⟩:=h.2 z v ev
   exact ⟨k,g',by lia,h2,h3,h4⟩
theorem z5i:∀{L M:List Int},L.Nodup→(∀x∈L,x∈M)→L.length≤M.length
 | [],M,_,_=>Nat.zero_le _
 | x :: L,M,hn,h=>by
  obtain ⟨h1,h2⟩:=List.nodup_cons.mp hn
  have hx:=h x (kM ..)
  have ih:=z5i (L:=L) (M:=M.erase x) h2 fun y hy=>by
   have:y≠x:=fun e=>h1 (e▸hy)
   exact (List.mem_erase_of_ne this).mpr (h y (kN _ hy))
  rw [List.length_erase_of_mem hx] at ih
  have:0 < M.length:=List.length_pos_of_mem hx
  rw [kL]
  lia
theorem z3r {rs:List Row} {j a b:Nat} (ha:(zt rs)[j]?=some a) (hb:(Zq rs)[j]?=some b):a≤b:=by
 obtain ⟨hj,ej⟩:=ke.mp ha
 have hal:=(qk.mp (kD ha)).1
 unfold Zq at hb
 by_cases hl:j+1 < (zt rs).length
 ·rw [yc (by rw [List.length_drop];lia),List.getElem?_drop,kH (by lia)] at hb
  cases hb
  have:=List.pairwise_iff_getElem.mp (jQ rs) j (1+j) hj (by lia) (by lia)
  lia
 ·rw [yd (by rw [List.length_drop];lia)] at hb
  have:=kD hb
  rw [kl] at this
  lia
noncomputable def qT (rs:List Row) (fin:Fnd) (a n:Nat):List Nat:=(List.range n).flatMap fun i=>qq rs fin (a+i)
theorem jK (rs:List Row) (fin:Fnd) (a n:Nat):qT rs fin a (n+1)=qT rs fin a n++qq rs fin (a+n):=by
 unfold qT
 rw [List.range_succ,List.flatMap_append]
 simp
theorem z1d (rs:List Row) (fin:Fnd) (p:Nat):(qq rs fin p).length≤rs.length:=by
 unfold qq
 split
 ·exact qE _ _
 ·exact Nat.zero_le _
theorem Jz {rs:List Row} {fin:Fnd} (h:rs.length≤150) (a:Nat):∀n,(qT rs fin a n).length≤150 * n
 | 0=>by simp [qT]
 | n+1=>by
  rw [jK,ki]
  have:=Jz (fin:=fin) h a n
  have:=z1d rs fin (a+n)
  lia
theorem JJ {rs:List Row} {fin:Fnd} {a n g:Nat}:g∈qT rs fin a n↔∃p,a≤p∧p < a+n∧g∈qq rs fin p:=by
 unfold qT
 rw [List.mem_flatMap]
 constructor
 ·rintro ⟨i,hi,hg⟩
  have:=List.mem_range.mp hi
  exact ⟨a+i,by lia,by lia,hg⟩
 ·rintro ⟨p,h1,h2,hg⟩
  exact ⟨p - a,List.mem_range.mpr (by lia),by rw [show a+(p - a)=p by lia];exact hg⟩
theorem jM {l:List Nat} {i:Nat} {x:V} (h:(nats l)[i]?=some x):∃g,l[i]?=some g∧x=.int (g:Int):=by
 unfold nats at h
 rw [List.getElem?_map] at h
 obtain ⟨g,h1,rfl⟩:=Option.map_eq_some_iff.mp h
 exact ⟨g,h1,rfl⟩
theorem jN (l l':List Nat):nats (l++l')=nats l++nats l':=by unfold nats;rw [kG]
theorem JE {H:Hp} {ps:List Addr} {fs es:List Nat} {i:Nat} {x:V} (h:jl H ps (jW (nats fs) (nats es))) (e:(ps.map V.ref)[i]?=some x):∃pa a b,x=.ref pa∧fs[i]?=some a∧es[i]?=some b∧H pa=some (.tup [.int (a:Int),.int (b:Int)]):=by
 rw [List.getElem?_map] at e
 obtain ⟨pa,e1,rfl⟩:=Option.map_eq_some_iff.mp e
 obtain ⟨xs,e2,e3⟩:=jl.get h e1
 obtain ⟨x,y,h1,h2,rfl⟩:=QA e2
 obtain ⟨a,ha,rfl⟩:=jM h1
 obtain ⟨b,hb,rfl⟩:=jM h2
 exact ⟨pa,a,b,rfl,ha,hb,e3⟩
theorem Jo {H H':Hp} {ps:List Addr} {ts:List (List V)} (h:jl H ps ts) (s:Same H H'):jl H' ps ts:=by
 refine ji (Paired.length h) fun j a xs ea ex=>?_
 obtain ⟨xs',e1,e2⟩:=jl.get h ea
 rw [ex] at e1
 cases e1
 exact s _ _ e2
def z6A (K:ko) (rs:List Row) (fin:Fnd):TE:=fun σ H3 Q=>∃(c gl pl nd fo:Addr) (a b:Nat) (v7:Option V) (gs:List Addr),σ=[some (.ref c),some (.ref gl),some (.ref pl),some (.int (a:Nat)),some (.int (b:Nat)),some (.ref nd),some (.ref fo),v7]∧a≤b∧b≤rs.length∧
 H3 gl=some (.lst (gs.map V.ref))∧zL H3 gs ((List.range rs.length).map (qq rs fin))∧∀rl H4,Same H3 H4→H3 rl=none→H4 rl=some (.lst (nats (qT rs fin a (b - a))))→Q (.ref rl) H4
def z7E (rs:List Row) (fin:Fnd):TE:=fun σ H3 Q=>∃(nd rl:Addr) (a b:Nat) (kvs:List (Key × V)),σ[5]?=some (some (.ref nd))∧σ[7]?=some (some (.ref rl))∧H3 nd=some (.dK kvs)∧NumD kvs (zt rs) (zt rs).length∧a≤b∧H3 rl=some (.lst (nats (qT rs fin a (b - a))))∧(qP rs fin a b).length≤52∧
 ∀sl H4,Same H3 H4→H3 sl=none→H4 sl=some (.lst (nats (qP rs fin a b)))→Q (.ref sl) H4
theorem z4I (D:zi K mg "links" (top 58)) (G:Glo mg) (FF:FN P w K mg base 11 "follows" ["code"] (Js K)) (FP:FN P w K mg base 2 "parts" ["code"] (z2u K)):FN P w K mg base 12 "links" ["code"] (z0j K):=by
 refine FN.o D sc58 fun f cdv A outer s H vs Q E hr h=>?_
 obtain ⟨l,as,rs,fin,rfl,hl,hR,hc,hfin,q⟩:=h
 have hlo:=hc.lo
 have hhi:=hc.hi
 have nd3:(["number","first","behind"]:List Str).Nodup:=by trivial
 have nda:(["place","goal","goals"]:List Str).Nodup:=by trivial
 have ndb:(["goal","numbers"]:List Str).Nodup:=by trivial
 have hr2:=hr.mono (show 2≤11 by decide)
 have hu:(A.deeper (envOfC "links" (ze (top 58)) s.heap.objs.size f cdv)).units+1 < cLine:=by have:=hr.un;lia
 refine ⟨_,z8 (zC (i:=1) sc58.nd rfl (Or.inr rfl) (zp FF hr rfl (z6 (pv 0) z7)))
  (z8 (zC (i:=2) sc58.nd rfl (Or.inl rfl) (zp FP hr2 rfl (z6 (pv 0) z7)))
  (z8 (zC (i:=5) sc58.nd rfl (Or.inr rfl) (z0q (N:=["number","first","behind"]) (nt:=3) (ix:=[]) (cl:=[]) rfl (qf.plain (by trivial) (by trivial) rfl (by trivial) rfl) (QV rfl G.enumerate (z6 (pv 2) z7))
    (fun _ _ _ _=>Zz (K:=K) (n:=2) rfl rfl (zA (zu (i:=0) nd3 rfl (Or.inl rfl)) (zA (Zz (K:=K) (n:=2) rfl rfl (zA (zu (i:=1) nd3 rfl (Or.inl rfl)) (zA (zu (i:=2) nd3 rfl (Or.inl rfl)) qA))) qA))) (fun _ _ _ _=>Q7) (fun _ _ _ _=>pv 1) (fun _ _ _ _=>pv 0)))
  (z8 (zC (i:=6) sc58.nd rfl (Or.inl rfl) (qe z7))
  (z8 (jf PassesOwn.never rfl (jd (pv 2)) (jU rfl (zA (zu (i:=3) sc58.nd rfl (Or.inl rfl)) (zA (zu (i:=4) sc58.nd rfl (Or.inl rfl)) qA)))
   (z8 (PS.imp (t':=QO 7 (z6A K rs fin)) (z0p (i:=7) (N:=["place","goal","goals"]) (nt:=2) (ix:=[1]) (cl:=z6p s.heap.objs.size) rfl sc58.nd rfl (Or.inl rfl) z8e (z2O rfl G.range (z6 (pv 3) (z6 (pv 4) z7)))
     (fun _ _ _ _=>zu (i:=0) nda rfl (Or.inl rfl)) (fun _ _ _ _=>z4a (K:=K) rfl (qa (z19 (K:=K) rfl) (pv 2) (pv 0) (fun _ _=>rfl))) (fun _ _ _ _=>zu (i:=1) nda rfl (Or.inl rfl)) (fun _ _ _ _=>pv 1)) ?m1)
   (zf (zj (jV (pv 6) (z6 (PE.imp (t':=z7E rs fin) (zw (Zr rfl) rfl G.sorted PyProof.Rows.boot_sorted (z6
    (Qb (N:=["goal","numbers"]) (nt:=1) (ix:=[5]) (cl:=z6o s.heap.objs.size) rfl z8d (jd (pv 7))
     (fun _ _ _ _=>zu (i:=0) ndb rfl (Or.inl rfl)) (fun _ _ _ _=>Q6 (z2F (z5f hu (pv 0) (pv 1)))) (fun _ _ _ _=>QW hu (pv 1) (pv 0) (fun _ _=>rfl))) z7)) ?m2) z7))))))
  (zf (zv (pv 6))))))),?_⟩
 case m1=>
  rintro D σ H3 ⟨c,gl,pl,nd,fo,a,b,v7,gs,rfl,hab,hb,hg,hG,k⟩
  have hgl:gs.length=rs.length:=by
   have:=Paired.length hG
   simpa using this
  refine ⟨_,rfl,_,rfl,(a:Int),(b:Int),rfl,⟨by lia,by lia,by lia,by lia⟩,fun rl hrl=>z3E (lo:=(a:Int)) (n:=((b:Int) - (a:Int)).toNat) (l:=rl) (fun i ys σ' H4=>(∃x y:Option V,σ'=[x,y,some (.ref gl)])∧Same H3 H4∧H4 rl=some (.lst ys)∧ys=nats (qT rs fin a i))
   ⟨⟨none,none,rfl⟩,zk hrl _,zb,rfl⟩ ?_ ?_⟩
  ·rintro i ys σ' H4 hi ⟨⟨x0,y0,rfl⟩,s4,hr4,rfl⟩
   have hi':a+i < rs.length:=by lia
   refine qI ?_
   have hga:((List.range rs.length).map (qq rs fin))[a+i]?=some (qq rs fin (a+i)):=by simp [hi']
   obtain ⟨ga,e1,e2⟩:=hG.get hga
   have e3:(gs.map V.ref)[a+i]?=some (.ref ga):=by rw [List.getElem?_map,e1];rfl
   have hsq:=SqL.of (K:=K) (s4 _ _ e2)
   refine ⟨_,rfl,_,rfl,gl,_,_,_,rfl,rfl,SqL.of (s4 _ _ hg),show atI (gs.map V.ref) ((a:Int)+(i:Int))=_ from (by rw [show (a:Int)+(i:Int)=((a+i:Nat):Int) by lia];exact zy e3),ga,rfl,⟨_,hsq⟩,?_⟩
   refine z1Q (K:=K) (a:=ga) (xs:=nats (qq rs fin (a+i))) (fun j ys σ' H5=>(∃x y:Option V,σ'=[x,y,some (.ref gl)])∧Same H3 H5∧H5 rl=some (.lst ys)∧ys=nats (qT rs fin a i++(qq rs fin (a+i)).take j)) ⟨⟨_,_,rfl⟩,s4,hr4,by simp⟩ (fun j ys σ' H5 _ ⟨_,s5,_⟩=>SqL.of (s5 _ _ e2)) ?_ ?_
   ·rintro j x ys σ' H5 hj ⟨⟨x1,y1,rfl⟩,s5,hr5,rfl⟩
    obtain ⟨g,eg,rfl⟩:=jM hj
    have hjl:j < (qq rs fin (a+i)).length:=(ke.mp eg).1
    have rl1:=Jz (fin:=fin) hhi a i
    have gl1:=z1d rs fin (a+i)
    refine qI ⟨_,rfl,hr5,?_,(nats (qq rs fin (a+i))).length - (j+1),by rw [zD];lia,rfl,by rw [zD];lia,⟨_,_,rfl⟩,fun b' o e=>by rw [zg (zc e hrl)];exact s5 _ _ e,zb,?_⟩
    ·rw [zD,ki,List.length_take,sizeLine_eq]
     lia
    ·rw [qj eg,←kR,jN (_++_) [g]]
     rfl
   ·rintro ys σ' H5 ⟨h1,s5,hr5,rfl⟩
    rw [zD,List.take_length,←jK] at hr5
    refine ⟨((b:Int) - (a:Int)).toNat - (i+1),by lia,rfl,by lia,h1,s5,?_,?_⟩
    ·rw [zD,List.take_length,←jK]
     exact hr5
    ·rw [zD,List.take_length,←jK]
  ·rintro ys σ' H4 ⟨_,s4,hr4,rfl⟩
   have e:((b:Int) - (a:Int)).toNat=b - a:=by lia
   rw [e] at hr4
   exact k rl H4 s4 hrl hr4
 case m2=>
  rintro σ H3 Q' ⟨nd,rl,a,b,kvs,e5,e7,hnd,hN,hab,hrl,h52,k⟩
  have few:∀ks:List Int,ks.Nodup→(∀z∈ks,∃k∈qP rs fin a b,z=(k:Int))→ks.length≤52:=fun ks h1 h2=>by
   have:=z5i (M:=(qP rs fin a b).map fun k:Nat=>(k:Int)) h1 fun z hz=>by
    obtain ⟨k,hk,e⟩:=h2 z hz
    exact yb.mpr ⟨k,hk,e.symm⟩
   rw [kh] at this
   lia
  refine ⟨_,e7,rl,rfl,⟨_,SqL.of hrl⟩,fun sl hsl=>QJ (K:=K) (a:=rl) (xs:=nats (qT rs fin a (b - a))) (l:=sl) (fun i σ' H4=>(∃x:Option V,σ'=[x,some (.ref nd)])∧Same H3 H4∧∃ks,H4 sl=some (jG P w sl ks)∧ks.Nodup∧(∀z∈ks,∃k∈qP rs fin a b,z=(k:Int))∧∀z:Int,z∈ks↔∃g∈(qT rs fin a (b - a)).take i,∃k:Nat,(zt rs)[k]?=some g∧z=(k:Int))
   ⟨⟨none,show [none,(σ[5]?).join]=_ by rw [e5];rfl⟩,zk hsl _,[],zb,.nil,(fun z hz=>by cases hz),fun z=>by simp⟩ (fun i σ' H4 _ ⟨_,s4,_⟩=>SqL.of (s4 _ _ hrl)) ?_ ?_⟩
  ·rintro i x σ' H4 hi ⟨⟨x0,rfl⟩,s4,ks,hs4,ndk,hin,hm⟩
   obtain ⟨g,eg,rfl⟩:=jM hi
   have hil:i < (qT rs fin a (b - a)).length:=(ke.mp eg).1
   have hgm:=JJ.mp (kD eg)
   refine qI ⟨_,rfl,_,rfl,nd,valV kvs (Sum.inl (g:Int):Key),rfl,.inl ⟨kvs,Sum.inl (g:Int),Rd.of (s4 _ _ hnd),rfl,rfl⟩,_,rfl,?_⟩
   cases ho:valV kvs (Sum.inl (g:Int):Key) with
   | none=>
    refine iteF ⟨(nats (qT rs fin a (b - a))).length - (i+1),by rw [zD];lia,rfl,by rw [zD];lia,⟨_,rfl⟩,s4,ks,hs4,ndk,hin,fun z=>?_⟩
    rw [hm z,qj eg]
    constructor
    ·rintro ⟨g',h1,h2⟩
     exact ⟨g',kK _ h1,h2⟩
    ·rintro ⟨g',h1,k',h2,h3⟩
     rcases kO.mp h1 with h | h
     ·exact ⟨g',h,k',h2,h3⟩
     ·rw [kl.mp h] at h2
      have:=hN.1 k' g (ke.mp h2).1 h2
      rw [ho] at this
      cases this
   | some v=>
    obtain ⟨k',g',hk',e1,e2,rfl⟩:=hN.2 _ _ ho
    have eg':g=g':=by lia
    subst eg'
    have hlk:k'∈qP rs fin a b:=jO.mpr ⟨g,hgm.choose,e1,hgm.choose_spec.1,by have:=hgm.choose_spec.2.1;lia,hgm.choose_spec.2.2⟩
    refine iteT ⟨_,rfl,_,rfl,nd,.int (k':Int),rfl,.inl ⟨kvs,Sum.inl (g:Int),Rd.of (s4 _ _ hnd),rfl,ho.symm⟩,ks,(k':Int),rfl,hs4,by have:=few ks ndk hin;lia,(nats (qT rs fin a (b - a))).length - (i+1),by rw [zD];lia,rfl,by rw [zD];lia,⟨_,rfl⟩,fun b' o e=>by rw [zg (zc e hsl)];exact s4 _ _ e,addI ks k',zb,z3Q ndk,?_,fun z=>?_⟩
    ·intro z hz
     rcases J3.mp hz with h | h
     ·exact hin z h
     ·exact ⟨k',hlk,h⟩
    ·rw [J3,qj eg,hm z]
     constructor
     ·rintro (⟨g',h1,h2⟩ | rfl)
      ·exact ⟨g',kK _ h1,h2⟩
      ·exact ⟨g,by simp,k',e1,rfl⟩
     ·rintro ⟨g',h1,k2,h2,h3⟩
      rcases kO.mp h1 with h | h
      ·exact .inl ⟨g',h,k2,h2,h3⟩
      ·rw [kl.mp h] at h2
       have:=hN.1 k2 g (ke.mp h2).1 h2
       rw [ho] at this
       injection this with this
       injection this with this
       exact .inr (by lia)
  ·rintro σ' H4 ⟨_,s4,ks,hs4,ndk,hin,hm⟩
   rw [zD,List.take_length] at hm
   refine ⟨sl,ks,rfl,hs4,by have:=few ks ndk hin;lia,fun dl ks' hdl hp hs=>?_⟩
   refine k dl _ (s4.trans (zk hdl _)) (s4.free hdl) ?_
   rw [zb]
   have:=Ju (l:=qP rs fin a b) hp hs ndk (Zc _ _) fun z=>?_
   ·rw [this]
    unfold nats
    rw [List.map_map]
    rfl
   ·constructor
    ·exact hin z
    ·rintro ⟨k',hk',rfl⟩
     obtain ⟨g,p,e1,e2,e3,e4⟩:=jO.mp hk'
     exact (hm _).mpr ⟨g,JJ.mpr ⟨p,e2,by lia,e4⟩,k',e1,rfl⟩
 refine ⟨_,rfl,l,as,rs,fin,rfl,hl,hR,hc,hfin,fun gl gs H1 s1 hgl hg1 hG1=>?_⟩
 refine ⟨_,rfl,l,as,rs,rfl,SqL.of (s1 _ _ hl),hR.same s1,hlo,hhi,fun pl ps H2 s2 hpl hp2 hT2=>?_⟩
 have hflen:(zt rs).length≤rs.length:=qE _ _
 have hps:ps.length=(zt rs).length:=by
  have:=Paired.length hT2
  unfold jW at this
  rw [List.length_zipWith,zD,zD,Jc hlo] at this
  lia
 refine ⟨_,rfl,pl,rfl,⟨_,SqL.of hp2⟩,fun nd hnd=>z24 (K:=K) (a:=pl) (xs:=ps.map V.ref) (l:=nd) (fun i σ' H3=>(∃x y z:Option V,σ'=[x,y,z])∧Same H2 H3∧∃kvs,H3 nd=some (.dK kvs)∧NumD kvs (zt rs) i∧kvs.length≤i)
  ⟨⟨none,none,none,rfl⟩,zk hnd _,[],zb,⟨fun k g hk=>absurd hk (Nat.not_lt_zero _),fun z v e=>by cases e⟩,kc _⟩ (fun i σ' H3 _ ⟨_,s3,_⟩=>SqL.of (s3 _ _ hp2)) ?_ ?_⟩
 ·rintro i x σ' H3 p hi ⟨⟨x0,y0,z0,rfl⟩,s3,kvs,hk,hN,hkl⟩ hp
  have sp:=zk hp (.tup [.int i,x])
  obtain ⟨pa,a,b,rfl,ea,eb,hpa⟩:=JE (Jo hT2 s3) hi
  have hil:i < ps.length:=by have:=(ke.mp hi).1;simpa using this
  refine ⟨p,_,rfl,SqT.of zb,rfl,_,_,rfl,_,_,rfl,pa,_,rfl,SqT.of (sp _ _ hpa),rfl,_,_,rfl,_,_,rfl,rfl,rfl,?_⟩
  have hk':=sp _ _ hk
  refine Q2 ⟨_,rfl,_,rfl,kvs,Sum.inl (a:Int),rfl,hk',by rw [sizeLine_eq];lia,(ps.map V.ref).length - (i+1),by rw [kh];lia,rfl,by rw [kh];lia,⟨_,_,_,rfl⟩,fun b' o e=>by rw [zg (zc e hnd)];exact sp _ _ (s3 _ _ e),_,zb,hN.put (jQ rs) ea,?_⟩
  have:=qp kvs (Sum.inl (a:Int):Key) (V.int (i:Int))
  lia
 ·rintro σ' H3 ⟨_,s3,kvs,hk,hN,hkl⟩
  rw [kh,hps] at hN
  refine ⟨Nat.zero_le _,fun fo hfo=>?_⟩
  have hlk:(j5 rs fin).length=ps.length:=by rw [Zl hlo,hps]
  refine ⟨_,rfl,pl,rfl,⟨_,SqL.of (zk hfo _ _ _ (s3 _ _ hp2))⟩,Ja (K:=K) (a:=pl) (xs:=ps.map V.ref) (fun i σ H4=>∃(v3 v4 v7:Option V) (ls:List Addr),σ=[some (.ref l),some (.ref gl),some (.ref pl),v3,v4,some (.ref nd),some (.ref fo),v7]∧Same H3 H4∧H4 fo=some (.lst (ls.map V.ref))∧ls.length=i∧(∀x∈ls,x≠fo)∧zL H4 ls ((j5 rs fin).take i))
   ⟨none,none,none,[],rfl,zk hfo _,zb,rfl,(fun x hx=>by cases hx),.nil⟩ (fun i σ H4 _ ⟨_,_,_,_,_,s4,_⟩=>SqL.of (s4 _ _ (s3 _ _ hp2))) ?_ ?_⟩
  ·rintro i x σ H4 hi ⟨v3,v4,v7,ls,rfl,s4,hf4,hln,hne,hLi⟩
   have s24:=s3.trans s4
   obtain ⟨pa,a,b,rfl,ea,eb,hpa⟩:=JE (Jo hT2 s24) hi
   have hil:i < ps.length:=by have:=(ke.mp hi).1;simpa using this
   refine ⟨pa,_,rfl,SqT.of hpa,rfl,_,_,rfl,_,_,rfl,rfl,?_⟩
   have hab:=z3r ea eb
   have s14:=(s2.trans s24)
   refine ⟨l,gl,pl,nd,fo,a,b,v7,gs,rfl,hab,z3w eb,s14 _ _ hg1,hG1.keep fun a o _ e=>s14 _ _ e,fun rl H5 s5 hrl h5=>?_⟩
   have hf5:=s5 _ _ hf4
   refine ⟨_,rfl,.inl ⟨rfl,_,SqL.of hf5⟩,nd,rl,a,b,kvs,rfl,rfl,s5 _ _ (s4 _ _ hk),hN,hab,h5,z32 hlo hhi hfin ea eb,fun sl H6 s6 hsl h6=>?_⟩
   have hf6:=s6 _ _ hf5
   have hsf:sl≠fo:=fun z=>by rw [z,hf5] at hsl;cases hsl
   refine ⟨fo,_,.ref sl,rfl,rfl,hf6,q0 (by rw [kh];lia),?_⟩
   have s46:=s5.trans s6
   refine ⟨_,_,_,ls++[sl],rfl,fun b' o e=>?_,?_,by simp [hln],?_,?_⟩
   ·rw [zg (zc e hfo)]
    exact s46 _ _ (s4 _ _ e)
   ·rw [zb,kG]
    rfl
   ·intro y hy
    rcases kO.mp hy with h | h
    ·exact hne y h
    ·rw [kl.mp h]
     exact hsf
   ·have hg:(j5 rs fin)[i]?=some (qP rs fin a b):=by
     unfold j5
     rw [List.getElem?_zipWith,ea,eb]
    rw [qj hg]
    refine zL.append (hLi.keep fun a o' ha e=>?_) (.cons ?_ .nil)
    ·rw [zg (hne a ha)]
     exact s46 _ _ e
    ·rw [zg hsf,h6]
  ·rintro σ H4 ⟨v3,v4,v7,ls,rfl,s4,hf4,hln,hne,hLi⟩
   rw [List.take_of_length_le (by rw [kh];lia)] at hLi
   exact ⟨_,rfl,q fo ls H4 (((s1.trans s2).trans s3).trans s4) (((s1.trans s2).trans s3).free hfo) hf4 hLi hne⟩
end
noncomputable def dkK (ks:List Nat):List (Key × V):=ks.map fun k:Nat=>((Sum.inl (k:Int):Key),V.bl true)
theorem z0A (ks:List Nat) (k:Nat):valV (dkK ks) (Sum.inl (k:Int):Key)=if k∈ks then some (.bl true) else none:=by
 induction ks with
 | nil=>rfl
 | cons x ks ih=>
  by_cases h:x=k
  ·subst h
   rw [kr (kM ..)]
   exact qy (r:=dkK ks) rfl
  ·have:valV (dkK (x :: ks)) (Sum.inl (k:Int):Key)=valV (dkK ks) (Sum.inl (k:Int):Key):=qz (r:=dkK ks) fun z=>h (by have z:(Sum.inl (x:Int):Key)=Sum.inl (k:Int):=z;injection z with z;lia)
   rw [this,ih]
   by_cases hk:k∈ks
   ·rw [kr hk,kr (kN _ hk)]
   ·rw [kq hk,kq fun z=>(ky.mp z).elim (fun z=>h z.symm) hk]
theorem z6j {ks:List Nat} {k:Nat} (h:k∉ks):putK (dkK ks) (Sum.inl (k:Int)) (.bl true)=dkK (ks++[k]):=by
 rw [z46 _ (by rw [z0A,kq h])]
 unfold dkK
 rw [kG]
 rfl
noncomputable def barV:Option Nat→V
 | none=>.non
 | some j=>.int (j:Int)
structure z6w (N:List (List Nat)):Prop where
 lo:1≤N.length
 hi:N.length≤150
 in_:∀l∈N,∀j∈l,j < N.length
 len:∀l∈N,l.length≤150
section
def z5a (K:ko):Sp:=fun vs H Q _=>∃nl ls N b,vs=[.ref nl,barV b]∧H nl=some (.lst (ls.map V.ref))∧zL H ls N∧z6w N∧
 ∀d ks H',Same H H'→H d=none→H' d=some (.dK (dkK ks))→ks.Nodup→(∀k,k∈ks↔Rb N b k)→Q (.ref d) H'
theorem sc59:zn ["nexts","barred","found","waiting","block"] ["nexts","barred"] (ze (top 59)):=fsM
structure Come (H H2:Hp) (d wl:Addr) (N:List (List Nat)) (b:Option Nat) (ks ws:List Nat) (m:Nat):Prop where
 same:Same H H2
 fnd:H2 d=some (.dK (dkK ks))
 wts:H2 wl=some (.lst (nats ws))
 nd:ks.Nodup
 rb:∀k∈ks,Rb N b k
 wb:∀k∈ws,k < N.length∧(b=some k∨Rb N b k)
 zero:0∈ks∨0∈ws∨b=some 0
 clo:∀k∈ks,∀l,N[k]?=some l→∀j∈l,j∈ks∨j∈ws∨b=some j
 me:m=(N.length - ks.length) * 151+ws.length
 wlen:ws.length≤1+ks.length * 150
theorem z6f (D:zi K mg "come_to" (top 59)):FN P w K mg base 1 "come_to" ["nexts","barred"] (z5a K):=by
 refine FN.o D sc59 fun f cdv A outer s H vs Q E hr h=>?_
 obtain ⟨nl,ls,N,b,rfl,hnl,hL,gN,q⟩:=h
 have hu:(A.deeper (envOfC "come_to" (ze (top 59)) s.heap.objs.size f cdv)).units+1 < cLine:=by have:=hr.un;lia
 refine ⟨_,z8 (zC (i:=2) sc59.nd rfl (Or.inl rfl) z0W)
  (z8 (zC (i:=3) sc59.nd rfl (Or.inl rfl) (qe (z6 zh z7)))
  (z8 (QU PassesOwn.never (ZV (pv 3) (fun _=>rfl))
   (z8 (zC (i:=4) sc59.nd rfl (Or.inl rfl) (z6X (pv 3)))
   (zf (qg (PW.pt (Qy (zr z1C (pv 4) (pv 1) (zB _)) (Zy (z2F (JD hu (pv 4) (pv 2))))))
    (z8 (z2G hu (pv 2) (pv 4) Qc rfl) (zf (zj (z5L PySem.F.plainAttrs_list PySem.F.slot_list_extend PySem.F.type_list_extend z2Z (pv 3) (z6 (qa zK (pv 0) (pv 4) (fun _ _=>rfl)) z7))))) zH))))
  (zf (zv (pv 2))))),?_⟩
 have kle:∀ks:List Nat,ks.Nodup→(∀k∈ks,Rb N b k)→ks.length≤N.length:=fun ks h1 h2=>by
  have:=JH (M:=List.range N.length) h1 fun x hx=>List.mem_range.mpr ((h2 x hx).lt gN.in_ gN.lo)
  rw [List.length_range] at this
  exact this
 have hnh:=gN.hi
 intro d hd
 refine ⟨by show 1≤sizeLine;decide,fun wl hwl=>?_⟩
 have hdw:d≠wl:=fun z=>by rw [←z,zb] at hwl;cases hwl
 have hwl0:H wl=none:=by rw [←hwl];exact (zg (Ne.symm hdw)).symm
 refine ⟨fun m σ H2=>∃(ks ws:List Nat) (v4:Option V),σ=[some (.ref nl),some (barV b),some (.ref d),some (.ref wl),v4]∧Come H H2 d wl N b ks ws m,⟨(N.length - 0) * 151+1,[],[0],none,rfl,?_⟩,?_⟩
 ·refine ⟨fun b' o e=>?_,?_,zb,.nil,(fun k hk=>by cases hk),(fun k hk=>?_),.inr (.inl (by simp)),(fun k hk=>by cases hk),rfl,by simp⟩
  ·rw [zg (zc e hwl0),zg (zc e hd)]
   exact e
  ·rw [zg hdw]
   exact zb
  ·rw [kl.mp hk]
   refine ⟨gN.lo,?_⟩
   by_cases h0:b=some 0
   ·exact .inl h0
   ·exact .inr (.zero h0)
 rintro m σ H2 ⟨ks,ws,v4,rfl,C⟩
 refine ⟨_,rfl,!ws.isEmpty,.inl ⟨_,SqL.of C.wts,by unfold nats;rw [List.isEmpty_map]⟩,?_⟩
 rcases List.eq_nil_or_concat ws with rfl | ⟨ws',p,rfl⟩
 ·refine iteF ⟨_,rfl,q d ks H2 C.same hd C.fnd C.nd fun k=>⟨C.rb k,fun h=>?_⟩⟩
  exact h.closed (C:=fun k=>k∈ks) (C.zero.imp id fun z=>z.resolve_left (by simp)) fun i l hi hl j hj=>(C.clo i hi l hl j hj).imp id fun z=>z.resolve_left (by simp)
 ·have he:(!(ws'++[p]).isEmpty)=true:=by simp
  rw [List.concat_eq_append] at C ⊢
  rw [he]
  refine iteT ⟨fun σ' H'=>∃m',m' < m∧∃(ks ws:List Nat) (v4:Option V),σ'=[some (.ref nl),some (barV b),some (.ref d),some (.ref wl),v4]∧Come H H' d wl N b ks ws m',fun σ' H' h=>h,?_⟩
  have ews:nats (ws'++[p])=nats ws'++[.int (p:Int)]:=jN _ _
  have elast:(nats (ws'++[p]))[(nats (ws'++[p])).length - 1]?=some (.int (p:Int)):=by rw [ews];simp
  have edrop:(nats (ws'++[p])).dropLast=nats ws':=by rw [ews];simp
  refine ⟨_,rfl,.inl ⟨rfl,_,SqL.of C.wts⟩,wl,_,_,rfl,rfl,C.wts,elast,?_⟩
  rw [edrop]
  have hkl:=kle ks C.nd C.rb
  have hme:=C.me
  have hwlen:=C.wlen
  rw [ki,kC] at hme hwlen
  obtain ⟨hpN,hpb⟩:=C.wb p (by simp)
  have hnw:nl≠wl:=fun z=>by have:=C.same _ _ hnl;rw [z] at hnl;rw [hwl0] at hnl;cases hnl
  have hnd:nl≠d:=fun z=>by rw [z,hd] at hnl;cases hnl
  have same1:Same H (upd H2 wl (.lst (nats ws'))):=fun b' o e=>by rw [zg (zc e hwl0)];exact C.same _ _ e
  have fnd1:upd H2 wl (.lst (nats ws')) d=some (.dK (dkK ks)):=by rw [zg hdw];exact C.fnd
  have stay:(p∈ks∨b=some p)→Come H (upd H2 wl (.lst (nats ws'))) d wl N b ks ws' ((N.length - ks.length) * 151+ws'.length):=fun hp=>by
   refine ⟨same1,fnd1,zb,C.nd,C.rb,fun k hk=>C.wb k (by simp [hk]),?_,fun k hk l hl j hj=>?_,rfl,by lia⟩
   ·rcases C.zero with z | z | z
    ·exact .inl z
    ·rcases kO.mp z with z | z
     ·exact .inr (.inl z)
     ·have z:=kl.mp z
      subst z
      exact hp.imp id .inr
    ·exact .inr (.inr z)
   ·rcases C.clo k hk l hl j hj with z | z | z
    ·exact .inl z
    ·rcases kO.mp z with z | z
     ·exact .inr (.inl z)
     ·rw [kl.mp z]
      exact hp.imp id .inr
    ·exact .inr (.inr z)
  have less:(N.length - ks.length) * 151+ws'.length < m:=by lia
  refine ⟨_,rfl,_,rfl,by cases b <;> rfl,_,rfl,?_⟩
  by_cases hb:b=some p
  ·subst hb
   rw [show (!decide (V.int (p:Int)=barV (some p)))=false by simp [barV]]
   exact iteF (iteF ⟨_,less,ks,ws',_,rfl,stay (.inr rfl)⟩)
  ·have hne:(!decide (V.int (p:Int)=barV b))=true:=by
    cases b with
    | none=>rfl
    | some j=>
     have:p≠j:=fun z=>hb (by rw [z])
     simp [barV]
     lia
   rw [hne]
   refine iteT ⟨_,rfl,_,rfl,d,_,rfl,DGet.k (k:=Sum.inl (p:Int)) fnd1,_,rfl,?_⟩
   rw [z0A]
   by_cases hk:p∈ks
   ·rw [kr hk]
    exact iteF ⟨_,less,ks,ws',_,rfl,stay (.inl hk)⟩
   ·rw [kq hk]
    have hkl2:ks.length < N.length:=by
     have:=kle (p :: ks) (List.nodup_cons.mpr ⟨hk,C.nd⟩) fun k h=>by
      rcases ky.mp h with z | z
      ·rw [z]
       exact hpb.resolve_left hb
      ·exact C.rb k z
     rw [kL] at this
     lia
    refine iteT ⟨_,rfl,_,rfl,d,_,rfl,.inl ⟨dkK ks,Sum.inl (p:Int),fnd1,rfl,by unfold dkK;rw [kh,sizeLine_eq];lia,rfl⟩,?_⟩
    rw [z6j hk]
    have el:N[p]?=some N[p]:=kH hpN
    obtain ⟨la,e1,e2⟩:=hL.get el
    have e3:(ls.map V.ref)[p]?=some (.ref la):=by rw [List.getElem?_map,e1];rfl
    have hll:=gN.len N[p] (List.getElem_mem hpN)
    have lnw:la≠wl:=fun z=>by rw [z,hwl0] at e2;cases e2
    have lnd:la≠d:=fun z=>by rw [z,hd] at e2;cases e2
    have hnl2:upd (upd H2 wl (.lst (nats ws'))) d (.dK (dkK (ks++[p]))) nl=some (.lst (ls.map V.ref)):=by rw [zg hnd,zg hnw];exact C.same _ _ hnl
    have hla2:upd (upd H2 wl (.lst (nats ws'))) d (.dK (dkK (ks++[p]))) la=some (.lst (nats N[p])):=by rw [zg lnd,zg lnw];exact C.same _ _ e2
    have hwl2:upd (upd H2 wl (.lst (nats ws'))) d (.dK (dkK (ks++[p]))) wl=some (.lst (nats ws')):=by rw [zg (Ne.symm hdw)];exact zb
    refine ⟨_,rfl,.inl ⟨rfl,_,SqL.of hwl2⟩,_,rfl,_,rfl,nl,_,_,_,rfl,rfl,SqL.of hnl2,zy e3,wl,la,_,_,rfl,rfl,hwl2,hla2,by rw [zD,zD,sizeLine_eq];lia,?_⟩
    rw [←jN]
    refine ⟨(N.length - (ks++[p]).length) * 151+(ws'++N[p]).length,?_,ks++[p],ws'++N[p],_,rfl,?_⟩
    ·rw [ki,kC,ki]
     lia
    ·refine ⟨fun b' o e=>?_,?_,zb,?_,fun k h=>?_,fun k h=>?_,?_,fun k h l hl j hj=>?_,rfl,?_⟩
     ·rw [zg (zc e hwl0),zg (zc e hd)]
      exact same1 _ _ e
     ·rw [zg hdw]
      exact zb
     ·rw [List.nodup_append]
      exact ⟨C.nd,by simp,fun a ha c hc=>by rw [kl.mp hc];exact fun z=>hk (z▸ha)⟩
     ·rcases kO.mp h with z | z
      ·exact C.rb k z
      ·rw [kl.mp z]
       exact hpb.resolve_left hb
     ·rcases kO.mp h with z | z
      ·exact C.wb k (by simp [z])
      ·refine ⟨gN.in_ _ (List.getElem_mem hpN) k z,?_⟩
       by_cases hbk:b=some k
       ·exact .inl hbk
       ·exact .inr (.step (hpb.resolve_left hb) el z hbk)
     ·rcases C.zero with z | z | z
      ·exact .inl (by simp [z])
      ·rcases kO.mp z with z | z
       ·exact .inr (.inl (by simp [z]))
       ·exact .inl (by simp [kl.mp z])
      ·exact .inr (.inr z)
     ·rcases kO.mp h with z | z
      ·rcases C.clo k z l hl j hj with y | y | y
       ·exact .inl (by simp [y])
       ·rcases kO.mp y with y | y
        ·exact .inr (.inl (by simp [y]))
        ·exact .inl (by simp [kl.mp y])
       ·exact .inr (.inr y)
      ·rw [kl.mp z,el] at hl
       cases hl
       exact .inr (.inl (by simp [hj]))
     ·rw [ki,ki,kC]
      lia
end
open Classical in
noncomputable def prB (N:List (List Nat)) (k j:Nat):Bool:=decide (Rb N none k∧¬Rb N (some j) k)
open Classical in
theorem jy {N:List (List Nat)} {k j:Nat}:prB N k j=true↔Rb N none k∧¬Rb N (some j) k:=by
 unfold prB
 exact decide_eq_true_iff
noncomputable def z4n (N:List (List Nat)):List (List Nat):=(List.range N.length).map fun k=>qc N.length (prB N k)
theorem zL.set {H:Hp} {ls:List Addr} {Ns:List (List Nat)} {k:Nat} {la:Addr} {ns:List Nat} (h:zL H ls Ns) (hn:ls.Nodup) (e:ls[k]?=some la):zL (upd H la (.lst (nats ns))) ls (Ns.set k ns):=by
 have hl:ls.length=Ns.length:=Paired.length h
 refine ji (by rw [List.length_set];exact hl) fun j a ms ea em=>?_
 have hk:=(ke.mp e).1
 by_cases hj:j=k
 ·subst hj
  rw [e] at ea
  cases ea
  rw [List.getElem?_set_self (by lia)] at em
  cases em
  exact zb
 ·rw [List.getElem?_set_ne (Ne.symm hj)] at em
  have hne:a≠la:=fun z=>by
   subst z
   obtain ⟨h1,e1⟩:=ke.mp ea
   obtain ⟨h2,e2⟩:=ke.mp e
   have:=List.pairwise_iff_getElem.mp hn
   rcases Nat.lt_or_gt_of_ne hj with z | z
   ·exact this _ _ h1 h2 z (e1.trans e2.symm)
   ·exact this _ _ h2 h1 z (e2.trans e1.symm)
  rw [zg hne]
  obtain ⟨a',h1,h2⟩:=h.get em
  rw [ea] at h1
  cases h1
  exact h2
noncomputable def Zh (N:List (List Nat)) (i:Nat) (ks:List Nat):List (List Nat):=(List.range N.length).map fun k=>if k∈ks then qc (i+1) (prB N k) else qc i (prB N k)
theorem Zg {N:List (List Nat)} {i:Nat} {ks:List Nat} {k:Nat} (h:k < N.length):(Zh N i ks)[k]?=some (if k∈ks then qc (i+1) (prB N k) else qc i (prB N k)):=by
 unfold Zh
 simp [h]
theorem ZX (N:List (List Nat)) (i:Nat) (ks:List Nat):(Zh N i ks).length=N.length:=by
 unfold Zh
 simp
theorem z10 {N:List (List Nat)} {i:Nat} {ks:List Nat} {k:Nat} (h:k < N.length):(Zh N i ks).set k (qc (i+1) (prB N k))=Zh N i (ks++[k]):=by
 refine List.ext_getElem? fun j=>?_
 by_cases hj:j < N.length
 ·rw [Zg hj]
  by_cases hk:j=k
  ·subst hk
   rw [List.getElem?_set_self (by rw [ZX];exact hj),kr (by simp)]
  ·rw [List.getElem?_set_ne (Ne.symm hk),Zg hj]
   by_cases hm:j∈ks
   ·rw [kr hm,kr (by simp [hm])]
   ·rw [kq hm,kq (by simp [hm,hk])]
 ·rw [List.getElem?_eq_none (by rw [List.length_set,ZX];lia),List.getElem?_eq_none (by rw [ZX];lia)]
theorem QY (N:List (List Nat)) (i:Nat):Zh N i []=(List.range N.length).map fun k=>qc i (prB N k):=by
 unfold Zh
 refine List.map_congr_left fun k _=>?_
 rw [kq (by simp)]
theorem z4h {N:List (List Nat)} {i:Nat} {ks:List Nat} (h:∀k,k∈ks↔Rb N none k):Zh N i ks=(List.range N.length).map fun k=>qc (i+1) (prB N k):=by
 unfold Zh
 refine List.map_congr_left fun k _=>?_
 by_cases hk:k∈ks
 ·rw [kr hk]
 ·rw [kq hk,qK,kq,kQ]
  intro z
  exact hk ((h k).mpr (jy.mp z).1)
theorem z4b {X:Cx} {tg l:Expr} {i:Nat} (hl:PE X l (tVar i)):PI X tg l (fun σ H R=>∃a kvs,σ[i]?=some (some (.ref a))∧(H a=some (.dK kvs)∨∃o,H a=some (.frz o (.dK kvs)))∧∀o Hs,(∀b,b≠a→Hs b=H b)→Hs a=some (.frz o (.dK kvs))→R (ItkG kV (fun H=>H a=some (.frz o (.dK kvs))) kvs) Hs):=by
 intro pins s σ H R I h
 obtain ⟨a,kvs,e,h1 | ⟨o,h1⟩,k⟩:=h
 ·exact z4c hl pins s σ H R I ⟨_,e,a,kvs,rfl,h1,fun o=>k o _ (fun b hb=>zg hb) zb⟩
 ·exact z4d hl pins s σ H R I ⟨_,e,a,o,kvs,rfl,h1,k o _ (fun _ _=>rfl) h1⟩
section
noncomputable abbrev N60:List Str:=["code","nexts","everywhere","block","passed","barred","around"]
theorem sc60:zn N60 ["code"] (ze (top 60)):=fsM
def z57 (K:ko):Sp:=fun vs H Q _=>∃l as rs fin,vs=[.ref l]∧H l=some (.lst (as.map V.ref))∧zP H as rs∧Code rs∧qR rs=some fin∧
 ∀pl ls H',Same H H'→H pl=none→H' pl=some (.lst (ls.map V.ref))→zL H' ls (z4n (j5 rs fin))→Q (.ref pl) H'
theorem QC {rs:List Row} {fin:Fnd} (hc:Code rs):z6w (j5 rs fin):=by
 have h1:=hc.lo
 have h2:=hc.hi
 have hf:(zt rs).length≤rs.length:=qE _ _
 refine ⟨by rw [Zl h1];exact List.length_pos_of_mem (ZD h1),by rw [Zl h1];lia,z4q h1,fun l hl=>?_⟩
 unfold j5 at hl
 obtain ⟨i,hi,e⟩:=List.mem_iff_getElem.mp hl
 rw [List.getElem_zipWith] at e
 subst e
 exact kn (qE _ _) (by lia)
theorem z68 (D:zi K mg "must" (top 60)) (G:Glo mg) (FL:FN P w K mg base 12 "links" ["code"] (z0j K)) (FC:FN P w K mg base 1 "come_to" ["nexts","barred"] (z5a K)):FN P w K mg base 13 "must" ["code"] (z57 K):=by
 refine FN.o D sc60 fun f cdv A outer s H vs Q E hr h=>?_
 obtain ⟨l,as,rs,fin,rfl,hl,hR,hc,hfin,q⟩:=h
 have hr1:=hr.mono (show 1≤12 by decide)
 have gN:=QC (fin:=fin) hc
 have hu:(A.deeper (envOfC "must" (ze (top 60)) s.heap.objs.size f cdv)).units+1 < cLine:=by have:=hr.un;lia
 refine ⟨_,z8 (zC (i:=1) sc60.nd rfl (Or.inl rfl) (zp FL hr rfl (z6 (pv 0) z7)))
  (z8 (zC (i:=2) sc60.nd rfl (Or.inl rfl) (zp FC hr1 rfl (z6 (pv 1) (z6 qU z7))))
  (z8 (jp (i:=4) (N:=["block"]) (nt:=1) (ix:=[]) (cl:=[]) rfl sc60.nd rfl (Or.inl rfl) (qf.plain (by trivial) (by trivial) rfl (by trivial) rfl) (jd (pv 1)) (fun _ _ _ _=>zu (i:=0) (nd1 _) rfl (Or.inl rfl)) (fun _ _ _ _=>Q7) (fun _ _ _ _=>qe z7))
  (z8 (jf PassesOwn.never rfl (qM rfl G.range (z6 (zw zx rfl G.len zS (z6 (pv 1) z7)) z7)) (zu (i:=5) sc60.nd rfl (Or.inl rfl))
   (z8 (zC (i:=6) sc60.nd rfl (Or.inl rfl) (zp FC hr1 rfl (z6 (pv 1) (z6 (pv 5) z7))))
   (zf (jf PassesOwn.never rfl (z4b (pv 2)) (zu (i:=3) sc60.nd rfl (Or.inl rfl))
    (zf (qg (z2F (JD hu (pv 3) (pv 6))) (zf (zj (jV (qa zK (pv 4) (pv 3) (fun _ _=>rfl)) (z6 (pv 5) z7)))) zH))))))
  (zf (zv (pv 4)))))),?_⟩
 refine ⟨_,rfl,l,as,rs,fin,rfl,hl,hR,hc,hfin,fun nl ns H1 s1 hnl hn1 hN1 hne1=>?_⟩
 generalize j5 rs fin=N at gN q hN1
 have hnn:ns.length=N.length:=Paired.length hN1
 have hhi:=gN.hi
 refine ⟨_,rfl,nl,ns,N,none,rfl,hn1,hN1,gN,fun ev ks H2 s2 hev he2 ndk hks=>?_⟩
 have klt:∀k∈ks,k < N.length:=fun k hk=>((hks k).mp hk).lt gN.in_ gN.lo
 refine ⟨_,rfl,nl,rfl,⟨_,SqL.of (s2 _ _ hn1)⟩,fun pl hpl=>jR (K:=K) (a:=nl) (xs:=ns.map V.ref) (fun i ys σ H3=>(∃x:Option V,σ=[x])∧Same H2 H3∧∃ls:List Addr,ys=ls.map V.ref∧H3 pl=some (.lst ys)∧ls.length=i∧ls.Nodup∧(∀a∈ls,a≠pl∧H2 a=none∧H3 a≠none)∧zL H3 ls (List.replicate i []))
  ⟨⟨none,rfl⟩,zk hpl _,[],rfl,zb,rfl,.nil,(fun a ha=>by cases ha),.nil⟩ (fun i ys σ H3 _ ⟨_,s3,_⟩=>SqL.of (s3 _ _ (s2 _ _ hn1))) ?_ ?_⟩
 ·rintro i x ys σ H3 hi ⟨⟨x0,rfl⟩,s3,ls,rfl,hp3,hln,nd,hnp,hLi⟩
  have hil:i < ns.length:=by have:=(ke.mp hi).1;simpa using this
  refine qI (Q2 ⟨Nat.zero_le _,fun la hla=>?_⟩)
  have sl:=zk hla (.lst [])
  have lap:la≠pl:=fun z=>by rw [z,hp3] at hla;cases hla
  have lnl:la∉ls:=fun z=>(hnp la z).2.2 hla
  refine ⟨sl _ _ hp3,q0 (by rw [kh];lia),(ns.map V.ref).length - (i+1),by rw [kh];lia,rfl,by rw [kh];lia,⟨_,rfl⟩,fun b o e=>by rw [zg (zc e hpl)];exact sl _ _ (s3 _ _ e),ls++[la],by rw [kG];rfl,zb,by simp [hln],?_,fun a ha=>?_,?_⟩
  ·rw [List.nodup_append]
   exact ⟨nd,by simp,fun a ha c hc=>by rw [kl.mp hc];exact fun z=>lnl (z▸ha)⟩
  ·rcases kO.mp ha with h | h
   ·obtain ⟨a1,a2,a3⟩:=hnp a h
    refine ⟨a1,a2,?_⟩
    rw [zg a1]
    cases e:H3 a with
    | none=>exact absurd e a3
    | some o=>rw [sl _ _ e];exact nofun
   ·rw [kl.mp h]
    refine ⟨lap,s3.free hla,?_⟩
    rw [zg lap,zb]
    exact nofun
  ·rw [List.replicate_succ',←List.concat_eq_append,List.concat_eq_append]
   refine zL.append (hLi.keep fun a o ha e=>?_) (.cons ?_ .nil)
   ·rw [zg (hnp a ha).1]
    exact sl _ _ e
   ·rw [zg lap,zb]
    rfl
 rintro ys σ0 H3 ⟨_,s3,ls,rfl,hp3,hln,nd,hnp,hLi⟩
 rw [kh,hnn] at hln hLi
 have s13:=s2.trans s3
 have lfree:∀a∈ls,H1 a=none:=fun a ha=>s2.free (hnp a ha).2.1
 have pfree:H1 pl=none:=s2.free hpl
 have evp:ev≠pl:=fun z=>by rw [z] at he2;rw [hpl] at he2;cases he2
 have evl:ev∉ls:=fun z=>by have:=(hnp ev z).2.1;rw [he2] at this;cases this
 refine ⟨_,rfl,nl,_,rfl,.inl (SqL.of (s13 _ _ hn1)),_,rfl,by lia,by rw [kh];lia,jj (lo:=0) (n:=(ns.map V.ref).length) (fun i σ H4=>∃v3 v5 v6:Option V,σ=[some (.ref l),some (.ref nl),some (.ref ev),v3,some (.ref pl),v5,v6]∧Same H1 H4∧H4 pl=some (.lst (ls.map V.ref))∧(H4 ev=some (.dK (dkK ks))∨∃o,H4 ev=some (.frz o (.dK (dkK ks))))∧zL H4 ls (Zh N i []))
  ⟨none,none,none,rfl,s13,hp3,.inl (s3 _ _ he2),?_⟩ ?_ ?_⟩
 ·rw [QY]
  have e0:(List.range N.length).map (fun k=>qc 0 (prB N k))=List.replicate N.length []:=by
   refine List.ext_getElem? fun j=>?_
   by_cases hj:j < N.length
   ·simp [hj,qc]
   ·rw [List.getElem?_eq_none (by simp;lia),List.getElem?_eq_none (by simp;lia)]
  rw [e0]
  exact hLi
 ·rintro i σ H4 hi ⟨v3,v5,v6,rfl,s4,hp4,hev4,hL4⟩
  rw [kh] at hi
  rw [Int.zero_add]
  refine qI ⟨_,rfl,_,rfl,nl,ns,N,some i,rfl,s4 _ _ hn1,hN1.keep fun a o _ e=>s4 _ _ e,gN,fun ar as' H5 s5 har ha5 nda hka=>?_⟩
  have s15:=s4.trans s5
  have hp5:=s5 _ _ hp4
  have hL5:=hL4.keep fun a o _ e=>s5 a o e
  have hev5:H5 ev=some (.dK (dkK ks))∨∃o,H5 ev=some (.frz o (.dK (dkK ks))):=hev4.imp (fun h=>s5 _ _ h) fun ⟨o,h⟩=>⟨o,s5 _ _ h⟩
  have are:ar≠ev:=fun z=>by
   rw [z] at har
   rcases hev4 with h | ⟨o,h⟩ <;> (rw [h] at har;cases har)
  have arp:ar≠pl:=fun z=>by rw [z,hp4] at har;cases har
  have arl:ar∉ls:=fun z=>by
   obtain ⟨j,hj,e⟩:=List.mem_iff_getElem.mp z
   have hjN:j < N.length:=by lia
   obtain ⟨a,h1,h2⟩:=hL4.get (Zg (N:=N) (i:=i) (ks:=[]) hjN)
   rw [kH hj,e] at h1
   cases h1
   rw [har] at h2
   cases h2
  refine ⟨ev,dkK ks,rfl,hev5,fun o Hs hoth hfz=>z3j (kvV:=kV) (ok:=fun H=>H ev=some (.frz o (.dK (dkK ks)))) (kvs:=dkK ks) (fun j σ H6=>∃v3:Option V,σ=[some (.ref l),some (.ref nl),some (.ref ev),v3,some (.ref pl),some (.int (i:Int)),some (.ref ar)]∧Same H1 H6∧H6 pl=some (.lst (ls.map V.ref))∧H6 ev=some (.frz o (.dK (dkK ks)))∧H6 ar=some (.dK (dkK as'))∧zL H6 ls (Zh N i (ks.take j)))
   ⟨_,rfl,fun b u e=>?_,?_,hfz,?_,?_⟩ (fun j σ H6 _ ⟨_,_,_,_,h,_⟩=>h) ?_ ?_⟩
  ·rw [hoth b (zc e hev)]
   exact s15 _ _ e
  ·rw [hoth pl (Ne.symm evp)]
   exact hp5
  ·rw [hoth ar are]
   exact ha5
  ·rw [List.take_zero]
   exact hL5.keep fun a u ha e=>by rw [hoth a (fun z=>evl (z▸ha))];exact e
  ·rintro j k v σ H6 ek ⟨v3',rfl,s6,hp6,hf6,ha6,hL6⟩
   unfold dkK at ek
   rw [List.getElem?_map] at ek
   obtain ⟨kk,ekk,e⟩:=Option.map_eq_some_iff.mp ek
   cases e
   have hkN:=klt kk (kD ekk)
   have hkr:=(hks kk).mp (kD ekk)
   have hnt:kk∉ks.take j:=fun z=>by
    obtain ⟨h1,e1⟩:=ke.mp ekk
    obtain ⟨a,ha,e2⟩:=List.mem_iff_getElem.mp z
    rw [List.getElem_take] at e2
    have ha':a < j:=by
     rw [List.length_take] at ha
     lia
    exact List.pairwise_iff_getElem.mp ndk a j (by lia) h1 ha' (e2.trans e1.symm)
   refine qI ⟨_,rfl,_,rfl,ar,_,rfl,DGet.k (k:=Sum.inl (kk:Int)) ha6,_,rfl,?_⟩
   rw [z0A]
   by_cases hin:kk∈as'
   ·rw [kr hin]
    refine iteF ⟨_,rfl,s6,hp6,hf6,ha6,?_⟩
    have hpr:¬prB N kk i=true:=fun z=>(jy.mp z).2 ((hka kk).mp hin)
    have:Zh N i (ks.take (j+1))=Zh N i (ks.take j):=by
     rw [qj ekk,←z10 hkN]
     refine List.ext_getElem? fun j'=>?_
     by_cases hj:j'=kk
     ·subst hj
      rw [List.getElem?_set_self (by rw [ZX];exact hkN),Zg hkN,kq hnt,qK,kq hpr,kQ]
     ·rw [List.getElem?_set_ne (Ne.symm hj)]
    rw [this]
    exact hL6
   ·rw [kq hin]
    obtain ⟨la,e1,e2⟩:=hL6.get (Zg (N:=N) (i:=i) (ks:=ks.take j) hkN)
    rw [kq hnt] at e2
    have e3:(ls.map V.ref)[kk]?=some (.ref la):=by rw [List.getElem?_map,e1];rfl
    have lam:la∈ls:=kD e1
    have hlr:(qc i (prB N kk)).length≤i:=qE _ _
    have hpr:prB N kk i=true:=jy.mpr ⟨hkr,fun z=>hin ((hka kk).mpr z)⟩
    have eA:nats (qc i (prB N kk))++[V.int (i:Int)]=nats (qc (i+1) (prB N kk)):=by rw [qK,kr hpr,jN];rfl
    refine iteT ⟨_,rfl,_,rfl,pl,_,_,_,rfl,rfl,SqL.of hp6,zy e3,.inl ⟨rfl,_,SqL.of e2⟩,_,rfl,la,_,_,rfl,rfl,e2,q0 (by rw [zD];lia),?_⟩
    rw [eA]
    refine ⟨_,rfl,fun b u e=>?_,?_,?_,?_,?_⟩
    ·rw [zg (zc e (lfree la lam))]
     exact s6 _ _ e
    ·rw [zg (Ne.symm (hnp la lam).1)]
     exact hp6
    ·rw [zg (show ev≠la from fun z=>evl (by rw [z];exact lam))]
     exact hf6
    ·rw [zg (show ar≠la from fun z=>arl (by rw [z];exact lam))]
     exact ha6
    ·rw [qj ekk,←z10 hkN]
     exact hL6.set nd e1
  ·rintro σ H6 ⟨v3',rfl,s6,hp6,hf6,ha6,hL6⟩
   refine ⟨_,_,_,rfl,s6,hp6,.inr ⟨o,hf6⟩,?_⟩
   have:(dkK ks).length=ks.length:=by unfold dkK;rw [kh]
   rw [this,List.take_length,z4h hks,←QY] at hL6
   exact hL6
 ·rintro σ H4 ⟨v3,v5,v6,rfl,s4,hp4,hev4,hL4⟩
  rw [kh,hnn,QY] at hL4
  exact ⟨_,rfl,q pl ls H4 (s1.trans s4) (s1.free pfree) hp4 hL4⟩
end
noncomputable def ZO (r:Row) (s:Sta):Option Sta:=if inT r.op qF=true then none else some (qC r s.1,qr r s.1 s.2 (tabI qu r.op))
noncomputable def tgts (r:Row) (s:Sta):List (Int × Sta):=
 (if inT r.op jumping=true then [(argM r.arg,((if inT r.op leaving=true then s.1 else qC r s.1),s.2))] else [])++
 (if inT r.op faulting=true then (match s.2.getLast? with
  | some g=>[(g.1,(g.2+1,s.2.dropLast))]
  | none=>[]) else [])
noncomputable def j4 (r:Row) (s:Sta):Bool:= !decide (s.1 < qD r)&& !Qj r s.2.getLast?&& !qS r s.1 s.2.getLast?&&decide (s.2.length≤1000)
noncomputable def chk (Γ:Int→Option Sta):List Row→Option Sta→Option (Option Sta)
 | [],c=>some c
 | r :: l,c=>
  if r.op="label" then (match Γ (argM r.arg),c with
   | some s,some s'=>if s=s'∧j4 r s=true then chk Γ l (some s) else none
   | some s,none=>if j4 r s=true then chk Γ l (some s) else none
   | none,none=>chk Γ l none
   | none,some _=>none)
  else (match c with
   | none=>chk Γ l none
   | some s=>if j4 r s=true∧(tgts r s).all (fun t=>decide (Γ t.1=some t.2))=true then chk Γ l (ZO r s) else none)
noncomputable def stOf (Γ:Int→Option Sta):List Row→Option Sta→Fnd
 | [],_=>[]
 | r :: l,c=>
  if r.op="label" then Γ (argM r.arg) :: stOf Γ l (Γ (argM r.arg))
  else c :: stOf Γ l (match c with
   | none=>none
   | some s=>ZO r s)
theorem ZT (Γ:Int→Option Sta):∀(l:List Row) (c:Option Sta),(stOf Γ l c).length=l.length
 | [],_=>rfl
 | r :: l,c=>by
  unfold stOf
  split
  ·rw [kL,ZT Γ l,kL]
  ·rw [kL,ZT Γ l,kL]
theorem jS (Γ:Int→Option Sta) (r:Row) (l:List Row) (c:Option Sta):chk Γ (r :: l) c=
  if r.op="label" then (match Γ (argM r.arg),c with
   | some s,some s'=>if s=s'∧j4 r s=true then chk Γ l (some s) else none
   | some s,none=>if j4 r s=true then chk Γ l (some s) else none
   | none,none=>chk Γ l none
   | none,some _=>none)
  else (match c with
   | none=>chk Γ l none
   | some s=>if j4 r s=true∧(tgts r s).all (fun t=>decide (Γ t.1=some t.2))=true then chk Γ l (ZO r s) else none):=rfl
theorem zl (Γ:Int→Option Sta):∀(a b:List Row) (c:Option Sta),chk Γ (a++b) c=(chk Γ a c).bind fun c'=>chk Γ b c'
 | [],b,c=>rfl
 | r :: a,b,c=>by
  rw [List.cons_append,jS,jS]
  by_cases hl:r.op="label"
  ·rw [kr hl,kr hl]
   cases Γ (argM r.arg) with
   | none=>cases c with
    | none=>exact zl Γ a b _
    | some s'=>rfl
   | some s=>cases c with
    | none=>
     dsimp only
     by_cases hz:j4 r s=true
     ·rw [kr hz,kr hz];exact zl Γ a b _
     ·rw [kq hz,kq hz];rfl
    | some s'=>
     dsimp only
     by_cases hz:s=s'∧j4 r s=true
     ·rw [kr hz,kr hz];exact zl Γ a b _
     ·rw [kq hz,kq hz];rfl
  ·rw [kq hl,kq hl]
   cases c with
   | none=>exact zl Γ a b _
   | some s=>
    dsimp only
    by_cases hz:j4 r s=true∧(tgts r s).all (fun t=>decide (Γ t.1=some t.2))=true
    ·rw [kr hz,kr hz];exact zl Γ a b _
    ·rw [kq hz,kq hz];rfl
structure Fits (Γ:Int→Option Sta) (l:List Row) (S:Fnd) (i:Nat) (r:Row) (s:Sta):Prop where
 ok:j4 r s=true
 tg:∀t∈tgts r s,Γ t.1=some t.2
 nx:∀s',ZO r s=some s'→S[i+1]?=some (some s')
theorem z0u:inT "label" qF=false:=by trivial
theorem z1M (r:Row) (h:r.op="label") (s:Sta):ZO r s=some s:=by
 unfold ZO
 rw [h,z0u,kq ka]
 unfold qC
 rw [h]
 have e1:tabI j8 "label"=0:=by trivial
 have e2:tabI qX "label"=0:=by trivial
 have e3:tabI qu "label"=0:=by trivial
 rw [e1,e2,e3]
 unfold qr
 rw [kq (by decide),kq (by decide)]
 simp
theorem z1L (r:Row) (h:r.op="label") (s:Sta):tgts r s=[]:=by
 unfold tgts
 have e1:inT "label" jumping=false:=by trivial
 have e2:inT "label" faulting=false:=by trivial
 rw [h,e1,e2,kq ka,kq ka]
 rfl
theorem z0g {Γ:Int→Option Sta} {l:List Row} {s:Sta} {c':Option Sta} (h:chk Γ l (some s)=some c') (hc:c'=none):(stOf Γ l (some s))[0]?=some (some s):=by
 cases l with
 | nil=>cases h;cases hc
 | cons r l=>
  unfold chk at h
  unfold stOf
  by_cases hl:r.op="label"
  ·rw [kr hl] at h
   rw [kr hl]
   cases e:Γ (argM r.arg) with
   | none=>rw [e] at h;cases h
   | some s2=>
    rw [e] at h
    dsimp only at h
    by_cases hz:s2=s∧j4 r s2=true
    ·rw [hz.1];rfl
    ·rw [kq hz] at h;cases h
  ·rw [kq hl]
   rfl
theorem Q0 {Γ:Int→Option Sta}:∀(l:List Row) (c:Option Sta),chk Γ l c=some none→∀(i:Nat) r s,l[i]?=some r→(stOf Γ l c)[i]?=some (some s)→Fits Γ l (stOf Γ l c) i r s
 | [],_,_,i,r,s,hr,_=>by cases hr
 | r0 :: l,c,h,i,r,s,hr,hs=>by
  unfold chk at h
  unfold stOf at hs ⊢
  by_cases hl:r0.op="label"
  ·rw [kr hl] at h hs ⊢
   have go:∀{c2:Option Sta},Γ (argM r0.arg)=c2→chk Γ l c2=some none→(∀s0,c2=some s0→j4 r0 s0=true)→Fits Γ (r0 :: l) (Γ (argM r0.arg) :: stOf Γ l (Γ (argM r0.arg))) i r s:=by
    intro c2 e h2 hok
    rw [e] at hs ⊢
    cases i with
    | zero=>
     cases hr
     have es:c2=some s:=by simpa using hs
     subst es
     refine ⟨hok s rfl,fun t ht=>?_,fun s' hn=>?_⟩
     ·rw [z1L r0 hl] at ht;cases ht
     ·rw [z1M r0 hl] at hn
      cases hn
      exact z0g h2 rfl
    | succ i=>
     have F:=Q0 l c2 h2 i r s hr hs
     exact ⟨F.ok,F.tg,F.nx⟩
   cases e:Γ (argM r0.arg) with
   | none=>
    rw [e] at h
    cases c with
    | some s'=>cases h
    | none=>have:=go e h (fun _ z=>by cases z);rw [e] at this;exact this
   | some s2=>
    rw [e] at h
    cases c with
    | some s'=>
     dsimp only at h
     by_cases hz:s2=s'∧j4 r0 s2=true
     ·rw [kr hz] at h
      have:=go e h (fun _ z=>by cases z;exact hz.2);rw [e] at this;exact this
     ·rw [kq hz] at h;cases h
    | none=>
     dsimp only at h
     by_cases hz:j4 r0 s2=true
     ·rw [kr hz] at h
      have:=go e h (fun _ z=>by cases z;exact hz);rw [e] at this;exact this
     ·rw [kq hz] at h;cases h
  ·rw [kq hl] at h hs ⊢
   cases c with
   | none=>
    dsimp only at h hs ⊢
    cases i with
    | zero=>cases hs
    | succ i=>
     have F:=Q0 l none h i r s hr hs
     exact ⟨F.ok,F.tg,F.nx⟩
   | some s0=>
    dsimp only at h hs ⊢
    by_cases hz:j4 r0 s0=true∧(tgts r0 s0).all (fun t=>decide (Γ t.1=some t.2))=true
    case neg=>rw [kq hz] at h;cases h
    rw [kr hz] at h
    cases i with
    | zero=>
     cases hr
     cases hs
     refine ⟨hz.1,fun t ht=>kw (List.all_eq_true.mp hz.2 t ht),fun s' hn=>?_⟩
     rw [hn] at h ⊢
     exact z0g h rfl
    | succ i=>
     have F:=Q0 l _ h i r s hr hs
     exact ⟨F.ok,F.tg,F.nx⟩
theorem QP {Γ:Int→Option Sta}:∀(l:List Row) (c:Option Sta) (q:Nat) (r:Row),l[q]?=some r→r.op="label"→(stOf Γ l c)[q]?=some (Γ (argM r.arg))
 | [],_,_,_,h,_=>by cases h
 | r0 :: l,c,0,r,h,hl=>by
  cases h
  unfold stOf
  rw [kr hl]
  rfl
 | r0 :: l,c,q+1,r,h,hl=>by
  unfold stOf
  split
  ·exact QP l _ q r h hl
  ·exact QP l _ q r h hl
theorem z78 {rs:List Row} {m:Int} {q:Nat} (h:zG rs m=some q):∃r,rs[q]?=some r∧r.op="label"∧argM r.arg=m:=by
 unfold zG at h
 obtain ⟨hq,hp,_⟩:=List.findIdx?_eq_some_iff_getElem.mp h
 refine ⟨rs[q],kH hq,?_⟩
 unfold labP at hp
 rw [kZ,ya,ya] at hp
 exact ⟨hp.1,by rw [hp.2];rfl⟩
theorem z40 {rs:List Row} {Γ:Int→Option Sta} (hΓ:∀m s,Γ m=some s→(zG rs m).isSome=true) (h:chk Γ rs (some (0,[]))=some none):z51 rs (stOf Γ rs (some (0,[]))):=by
 have hlab:∀m s,Γ m=some s→∃q:Nat,labV rs m=.int (q:Int)∧q < rs.length∧(stOf Γ rs (some (0,[])))[q]?=some (some s):=by
  intro m s e
  obtain ⟨q,hq⟩:=Option.isSome_iff_exists.mp (hΓ m s e)
  obtain ⟨r,hr,ho,ha⟩:=z78 hq
  refine ⟨q,by unfold labV;rw [hq],(ke.mp hr).1,?_⟩
  rw [QP rs _ q r hr ho,ha,e]
 have F:=Q0 rs (some (0,[])) h
 have lead:∀(p:Nat) r s,rs[p]?=some r→(stOf Γ rs (some (0,[])))[p]?=some (some s)→∀m∈qG rs p r s.1 s.2.getLast?,∃j:Nat,m.1=.int (j:Int)∧j < rs.length∧(stOf Γ rs (some (0,[])))[j]?=some (some (m.2.1,qr r s.1 s.2 m.2.2)):=by
  intro p r s hr hs m hm
  have f:=F p r s hr hs
  have hok:=f.ok
  unfold j4 at hok
  simp only [kZ,Bool.not_eq_true',ya,decide_eq_false_iff_not] at hok
  obtain ⟨⟨⟨k1,k2⟩,k3⟩,k4⟩:=hok
  unfold qG at hm
  rw [kf k1,kq ka,k2,kq ka] at hm
  rcases kO.mp hm with hm | hm
  ·rcases kO.mp hm with hm | hm
   ·unfold mv1 at hm
    by_cases hn:inT r.op qF=true
    ·rw [kr hn] at hm;cases hm
    ·rw [kq hn] at hm
     rw [kl.mp hm]
     have e:=f.nx (qC r s.1,qr r s.1 s.2 (tabI qu r.op)) (by unfold ZO;rw [kq hn])
     refine ⟨p+1,by push_cast;rfl,?_,e⟩
     have:=(ke.mp e).1
     rw [ZT] at this
     exact this
   ·unfold mv2 at hm
    by_cases hj:inT r.op jumping=true
    ·rw [kr hj] at hm
     rw [kl.mp hm]
     obtain ⟨q,h1,h2,h3⟩:=hlab _ _ (f.tg (argM r.arg,((if inT r.op leaving=true then s.1 else qC r s.1),s.2)) (by
      unfold tgts
      rw [kr hj]
      exact kK _ (kl.mpr rfl)))
     refine ⟨q,h1,h2,?_⟩
     have e0:qr r s.1 s.2 0=s.2:=by unfold qr;rw [kq (by decide),kq (by decide)]
     show _=some (some ((if inT r.op leaving=true then s.1 else qC r s.1),qr r s.1 s.2 0))
     rw [e0]
     exact h3
    ·rw [kq hj] at hm;cases hm
  ·unfold mv3 at hm
   by_cases hf:inT r.op faulting=true
   ·rw [kr hf] at hm
    cases hg:s.2.getLast? with
    | none=>rw [hg] at hm;cases hm
    | some g=>
     rw [hg] at hm
     rw [kl.mp hm]
     obtain ⟨q,h1,h2,h3⟩:=hlab _ _ (f.tg (g.1,(g.2+1,s.2.dropLast)) (by
      unfold tgts
      rw [kr hf,hg]
      exact kJ _ (kl.mpr rfl)))
     refine ⟨q,h1,h2,?_⟩
     have e0:qr r s.1 s.2 (-1)=s.2.dropLast:=by unfold qr;rw [kq (by decide),kr rfl]
     show _=some (some (g.2+1,qr r s.1 s.2 (-1)))
     rw [e0]
     exact h3
   ·rw [kq hf] at hm;cases hm
 refine ⟨ZT _ _ _,z0g h rfl,fun p r s hr hs=>?_,fun p r s hr hs x s' hx=>?_⟩
 ·have hok:=(F p r s hr hs).ok
  unfold j4 at hok
  simp only [kZ,Bool.not_eq_true',ya,decide_eq_false_iff_not] at hok
  obtain ⟨⟨⟨k1,k2⟩,k3⟩,k4⟩:=hok
  refine ⟨?_,k4⟩
  have hend:inV (.int (rs.length:Nat)) ((qG rs p r s.1 s.2.getLast?).map (·.1))=false:=by
   unfold inV
   rw [List.any_eq_false]
   intro y hy
   obtain ⟨m,hm,rfl⟩:=yb.mp hy
   obtain ⟨j,h1,h2,_⟩:=lead p r s hr hs m hm
   rw [h1]
   intro z
   have z:decide ((j:Int)=(rs.length:Int))=true:=by
    first
     | exact z
     | simpa [eqV] using z
   have:=kw z
   lia
  unfold jt Q1
  rw [kf k1,k2,k3,hend]
  rfl
 ·unfold j7 at hx
  obtain ⟨m,hm,e⟩:=yb.mp hx
  cases e
  obtain ⟨j,h1,_,h3⟩:=lead p r s hr hs m hm
  exact ⟨j,h1,h3⟩
structure GOk (d:Int) (gs:List Gd) (n:Nat):Prop where
 pos:0≤d
 len:gs.length+n≤1000
 top:∀g,gs.getLast?=some g→g.2≤d
def GEnv (Γ:Int→Option Sta) (gs:List Gd):Prop:=∀g,gs.getLast?=some g→Γ g.1=some (g.2+1,gs.dropLast)
def Ext (Γ Γl:Int→Option Sta) (k k':Nat):Prop:=∀m:Nat,k≤m→m < k'→Γ (m:Int)=Γl (m:Int)
structure Ty (δ:Int) (sure:Bool) (k k':Nat) (l:List Row):Prop where
 go:∀d gs,GOk d gs l.length→∃(Γl:Int→Option Sta) (c':Option Sta),(c'=some (d+δ,gs)∨(sure=false∧c'=none))∧∀Γ,Ext Γ Γl k k'→GEnv Γ gs→chk Γ l (some (d,gs))=some c'
 off:∀Γ:Int→Option Sta,(∀m:Nat,k≤m→m < k'→Γ (m:Int)=none)→chk Γ l none=some none
theorem Ty.nil (k:Nat):Ty 0 true k k []:=⟨fun d gs _=>⟨fun _=>none,some (d,gs),.inl (by rw [Int.add_zero]),fun _ _ _=>rfl⟩,fun _ _=>rfl⟩
theorem Ty.app {δ1 δ2:Int} {s1 s2:Bool} {k k1 k2:Nat} {a b:List Row} (x:Ty δ1 s1 k k1 a) (y:Ty δ2 s2 k1 k2 b) (h1:k≤k1) (h2:k1≤k2) (hp:0≤δ1):Ty (δ1+δ2) (s1&&s2) k k2 (a++b):=by
 refine ⟨fun d gs hg=>?_,fun Γ hΓ=>?_⟩
 ·have hl:=hg.len
  rw [ki] at hl
  obtain ⟨Γa,ca,hca,ha⟩:=x.go d gs ⟨hg.pos,by lia,hg.top⟩
  have mix:∀Γb:Int→Option Sta,∃Γl:Int→Option Sta,∀Γ,Ext Γ Γl k k2→Ext Γ Γa k k1∧Ext Γ Γb k1 k2:=fun Γb=>
   ⟨fun m=>if m < (k1:Int) then Γa m else Γb m,fun Γ h=>⟨fun m m1 m2=>(h m m1 (by lia)).trans (kr (by lia)),fun m m1 m2=>(h m (by lia) m2).trans (kq (by lia))⟩⟩
  rcases hca with rfl | ⟨hs,rfl⟩
  ·obtain ⟨Γb,cb,hcb,hb⟩:=y.go (d+δ1) gs ⟨by have:=hg.pos;lia,by lia,fun g e=>by have:=hg.top g e;lia⟩
   obtain ⟨Γl,hm⟩:=mix Γb
   refine ⟨Γl,cb,?_,fun Γ he hE=>?_⟩
   ·rcases hcb with h | ⟨h,h'⟩
    ·exact .inl (by rw [h,Int.add_assoc])
    ·exact .inr ⟨by rw [h,Bool.and_false],h'⟩
   ·obtain ⟨e1,e2⟩:=hm Γ he
    rw [zl,ha Γ e1 hE]
    exact hb Γ e2 hE
  ·obtain ⟨Γl,hm⟩:=mix fun _=>none
   refine ⟨Γl,none,.inr ⟨by rw [hs,Bool.false_and],rfl⟩,fun Γ he hE=>?_⟩
   obtain ⟨e1,e2⟩:=hm Γ he
   rw [zl,ha Γ e1 hE]
   exact y.off Γ e2
 ·rw [zl,x.off Γ fun m m1 m2=>hΓ m m1 (by lia)]
  exact y.off Γ fun m m1 m2=>hΓ m (by lia) m2
theorem js {Γ:Int→Option Sta} {r:Row} {s:Sta} (hl:r.op≠"label") (ho:j4 r s=true) (ht:∀t∈tgts r s,Γ t.1=some t.2):chk Γ [r] (some s)=some (ZO r s):=by
 rw [jS,kq hl]
 dsimp only
 rw [kr ⟨ho,List.all_eq_true.mpr fun t h=>kg (ht t h)⟩]
 rfl
theorem zR {Γ:Int→Option Sta} {r:Row} (hl:r.op≠"label"):chk Γ [r] none=some none:=by
 rw [jS,kq hl]
 rfl
theorem qV {r:Row} {d:Int} {gs:List Gd} (h1:qD r≤d) (h2:∀g,gs.getLast?=some g→g.2≤d - qD r) (h3:r.op≠"endtry") (h4:gs.length≤1000):j4 r (d,gs)=true:=by
 unfold j4 Qj
 have e1:decide (d < qD r)=false:=kf (by lia)
 have e2:qS r d gs.getLast?=false:=by
  unfold qS
  cases e:gs.getLast? with
  | none=>rfl
  | some g=>
   have:=h2 g e
   dsimp only
   split
   ·rfl
   ·refine kf ?_
    split <;> split <;> lia
 show (!decide (d < qD r)&& !(decide (r.op="endtry")&&gs.getLast?.isNone)&& !qS r d gs.getLast?&&decide (gs.length≤1000))=true
 rw [e1,e2,kf h3,kg h4]
 rfl
structure Z6 (op:Str) (a b:Int):Prop where
 lab:op≠"label"
 et:op≠"endtry"
 deep:inT op jr=false
 takes:tabI j8 op=a
 pushes:tabI qX op=b
 on:inT op qF=false
 jump:inT op jumping=false
 gput:tabI qu op=0
theorem Z6.asked {op:Str} {a b:Int} (h:Z6 op a b) (arg:V) (l:Int):qD ⟨op,arg,l⟩=a:=by
 unfold qD
 rw [h.deep,kq ka]
 exact h.takes
theorem Z6.chk {op:Str} {a b:Int} (h:Z6 op a b) {Γ:Int→Option Sta} {d:Int} {gs:List Gd} (arg:V) (l:Int) (hd:a≤d) (hg:∀g,gs.getLast?=some g→g.2≤d - a) (hz:gs.length≤1000) (hE:GEnv Γ gs):
  chk Γ [⟨op,arg,l⟩] (some (d,gs))=some (some (d - a+b,gs)):=by
 rw [js h.lab (qV (by rw [h.asked];exact hd) (by rw [h.asked];exact hg) h.et hz)]
 ·unfold ZO
  rw [h.on,kq ka]
  unfold qC qr
  rw [h.takes,h.pushes,h.gput,kq (by decide),kq (by decide)]
 ·intro t ht
  unfold tgts at ht
  rw [h.jump,kq ka,List.nil_append] at ht
  by_cases hf:inT op faulting=true
  ·rw [kr hf] at ht
   cases e:gs.getLast? with
   | none=>
    rw [show ((d,gs):Sta).2.getLast?=none from e] at ht
    cases ht
   | some g=>
    rw [show ((d,gs):Sta).2.getLast?=some g from e] at ht
    rw [kl.mp ht]
    exact hE g e
  ·rw [kq hf] at ht;cases ht
theorem Ty.row {δ:Int} {k k':Nat} {l:List Row} (x:Ty δ true k k' l) {op:Str} {a b:Int} (h:Z6 op a b) (hd:a≤δ) (arg:V) (ln:Int):Ty (δ - a+b) true k k' (l++[⟨op,arg,ln⟩]):=by
 refine ⟨fun d gs hg=>?_,fun Γ hΓ=>?_⟩
 ·have hl:=hg.len
  rw [ki,kC] at hl
  obtain ⟨Γa,ca,hca,ha⟩:=x.go d gs ⟨hg.pos,by lia,hg.top⟩
  have hca:ca=some (d+δ,gs):=by
   rcases hca with h | ⟨h,_⟩
   ·exact h
   ·cases h
  subst hca
  refine ⟨Γa,some (d+(δ - a+b),gs),.inl rfl,fun Γ he hE=>?_⟩
  rw [zl,ha Γ he hE]
  show My.chk Γ [⟨op,arg,ln⟩] (some (d+δ,gs))=_
  rw [h.chk arg ln (by have:=hg.pos;lia) (fun g e=>by have:=hg.top g e;lia) (by lia) hE]
  congr 3
  lia
 ·rw [zl,x.off Γ hΓ]
  exact zR h.lab
theorem z5I:Z6 "push" 0 1:=⟨by trivial,by trivial,by trivial,by trivial,by trivial,by trivial,by trivial,by trivial⟩
theorem z2M:Z6 "load" 0 1:=⟨by trivial,by trivial,by trivial,by trivial,by trivial,by trivial,by trivial,by trivial⟩
theorem z5c:∀op∈(["add","sub","mul","div","rest","less","same"]:List Str),Z6 op 2 1:=by
 intro op h
 simp only [ky,km,or_false] at h
 rcases h with rfl | rfl | rfl | rfl | rfl | rfl | rfl
 all_goals exact ⟨by trivial,by trivial,by trivial,by trivial,by trivial,by trivial,by trivial,by trivial⟩
theorem z6V:∀op∈(["neg","not"]:List Str),Z6 op 1 1:=by
 intro op h
 simp only [ky,km,or_false] at h
 rcases h with rfl | rfl
 all_goals exact ⟨by trivial,by trivial,by trivial,by trivial,by trivial,by trivial,by trivial,by trivial⟩
theorem Z2:∀op∈(["drop","tell","store"]:List Str),Z6 op 1 0:=by
 intro op h
 simp only [ky,km,or_false] at h
 rcases h with rfl | rfl | rfl
 all_goals exact ⟨by trivial,by trivial,by trivial,by trivial,by trivial,by trivial,by trivial,by trivial⟩
theorem z48:Z6 "clear" 0 0:=⟨by trivial,by trivial,by trivial,by trivial,by trivial,by trivial,by trivial,by trivial⟩
structure Op (op:Str) (a b g:Int) (on jump leave fault:Bool):Prop where
 deep:inT op jr=false
 takes:tabI j8 op=a
 pushes:tabI qX op=b
 gput:tabI qu op=g
 on:inT op qF= !on
 jump:inT op jumping=jump
 leave:inT op leaving=leave
 fault:inT op faulting=fault
theorem Op.asked {op:Str} {a b g:Int} {on j lv f:Bool} (h:Op op a b g on j lv f) (arg:V) (l:Int):qD ⟨op,arg,l⟩=a:=by
 unfold qD
 rw [h.deep,kq ka]
 exact h.takes
theorem Op.next {op:Str} {a b g:Int} {on j lv f:Bool} (h:Op op a b g on j lv f) (arg:V) (l:Int) (s:Sta):ZO ⟨op,arg,l⟩ s=if on=true then some (s.1 - a+b,qr ⟨op,arg,l⟩ s.1 s.2 g) else none:=by
 unfold ZO qC
 rw [h.on,h.takes,h.pushes,h.gput]
 cases on <;> rfl
theorem Op.tg {op:Str} {a b g:Int} {on j lv f:Bool} (h:Op op a b g on j lv f) {Γ:Int→Option Sta} {m:Int} {l:Int} {d:Int} {gs:List Gd} (hj:j=true→Γ m=some ((if lv=true then d else d - a+b),gs)) (hf:f=true→GEnv Γ gs):∀t∈tgts ⟨op,.int m,l⟩ (d,gs),Γ t.1=some t.2:=by
 intro t ht
 unfold tgts qC at ht
 rw [h.jump,h.leave,h.fault,h.takes,h.pushes] at ht
 rcases kO.mp ht with ht | ht
 ·cases j with
  | false=>cases ht
  | true=>
   rw [kr rfl] at ht
   rw [kl.mp ht]
   exact hj rfl
 ·cases f with
  | false=>cases ht
  | true=>
   rw [kr rfl] at ht
   cases e:gs.getLast? with
   | none=>rw [show ((d,gs):Sta).2.getLast?=none from e] at ht;cases ht
   | some g=>
    rw [show ((d,gs):Sta).2.getLast?=some g from e] at ht
    rw [kl.mp ht]
    exact hf rfl g e
theorem z70:∀op∈(["ortrue","orfalse"]:List Str),Op op 1 0 0 true true true false∧op≠"label"∧op≠"endtry":=by
 intro op h
 simp only [ky,km,or_false] at h
 rcases h with rfl | rfl
 all_goals exact ⟨⟨by trivial,by trivial,by trivial,by trivial,by trivial,by trivial,by trivial,by trivial⟩,by trivial,by trivial⟩
theorem z73:∀op∈(["iftrue","iffalse"]:List Str),Op op 1 0 0 true true false false∧op≠"label"∧op≠"endtry":=by
 intro op h
 simp only [ky,km,or_false] at h
 rcases h with rfl | rfl
 all_goals exact ⟨⟨by trivial,by trivial,by trivial,by trivial,by trivial,by trivial,by trivial,by trivial⟩,by trivial,by trivial⟩
theorem J0:Op "jump" 0 0 0 false true false false:=⟨by trivial,by trivial,by trivial,by trivial,by trivial,by trivial,by trivial,by trivial⟩
theorem z11:Op "try" 0 0 1 true false false false:=⟨by trivial,by trivial,by trivial,by trivial,by trivial,by trivial,by trivial,by trivial⟩
theorem jB:Op "endtry" 0 0 (-1) true false false false:=⟨by trivial,by trivial,by trivial,by trivial,by trivial,by trivial,by trivial,by trivial⟩
theorem Zi:Op "raise" 1 0 0 false false false true:=⟨by trivial,by trivial,by trivial,by trivial,by trivial,by trivial,by trivial,by trivial⟩
theorem jz:Op "return" 1 0 0 false false false false:=⟨by trivial,by trivial,by trivial,by trivial,by trivial,by trivial,by trivial,by trivial⟩
theorem z13:Op "label" 0 0 0 true false false false:=⟨by trivial,by trivial,by trivial,by trivial,by trivial,by trivial,by trivial,by trivial⟩
theorem gs0 (r:Row) (d:Int) (gs:List Gd):qr r d gs 0=gs:=by unfold qr;rw [kq (by decide),kq (by decide)]
section
variable {Γ:Int→Option Sta} {d m l:Int} {gs:List Gd}
theorem z7t {op:Str} (h:op∈(["ortrue","orfalse"]:List Str)) (h0:0≤d) (ht:∀g,gs.getLast?=some g→g.2≤d) (hz:gs.length≤1000) (hΓ:Γ m=some (d+1,gs)):chk Γ [⟨op,.int m,l⟩] (some (d+1,gs))=some (some (d,gs)):=by
 obtain ⟨o,h1,h2⟩:=z70 op h
 rw [js h1 (qV (by rw [o.asked];lia) (fun g e=>by rw [o.asked];have:=ht g e;lia) h2 hz) (o.tg (fun _=>hΓ) nofun),o.next,kr rfl,gs0]
 congr 3
 show d+1 - 1+0=d
 lia
theorem z5o {op:Str} (h:op∈(["iftrue","iffalse"]:List Str)) (h0:0≤d) (ht:∀g,gs.getLast?=some g→g.2≤d) (hz:gs.length≤1000) (hΓ:Γ m=some (d,gs)):chk Γ [⟨op,.int m,l⟩] (some (d+1,gs))=some (some (d,gs)):=by
 obtain ⟨o,h1,h2⟩:=z73 op h
 have e:d+1 - 1+0=d:=by lia
 rw [js h1 (qV (by rw [o.asked];lia) (fun g e=>by rw [o.asked];have:=ht g e;lia) h2 hz) (o.tg (fun _=>by rw [kq ka,e];exact hΓ) nofun),o.next,kr rfl,gs0]
 congr 3
theorem ZZ (h0:0≤d) (ht:∀g,gs.getLast?=some g→g.2≤d) (hz:gs.length≤1000) (hΓ:Γ m=some (d,gs)):chk Γ [⟨"jump",.int m,l⟩] (some (d,gs))=some none:=by
 have e:d - 0+0=d:=by lia
 rw [js (show ("jump":Str)≠"label" by trivial) (qV (by rw [J0.asked];lia) (fun g e=>by rw [J0.asked];have:=ht g e;lia) (show ("jump":Str)≠"endtry" by trivial) hz) (J0.tg (fun _=>by rw [kq ka,e];exact hΓ) nofun),J0.next]
 rfl
theorem z3G (h0:0≤d) (ht:∀g,gs.getLast?=some g→g.2≤d) (hz:gs.length≤1000):chk Γ [⟨"try",.int m,l⟩] (some (d,gs))=some (some (d,gs++[(m,d)])):=by
 rw [js (show ("try":Str)≠"label" by trivial) (qV (by rw [z11.asked];lia) (fun g e=>by rw [z11.asked];have:=ht g e;lia) (show ("try":Str)≠"endtry" by trivial) hz) (z11.tg nofun nofun),z11.next,kr rfl]
 unfold qr
 rw [kr rfl]
 congr 3
 show d - 0+0=d
 lia
theorem QK {g:Gd} (h0:0≤d) (ht:g.2≤d) (hz:gs.length+1≤1000):chk Γ [⟨"endtry",.non,l⟩] (some (d,gs++[g]))=some (some (d,gs)):=by
 have hl:(gs++[g]).getLast?=some g:=by rw [List.getLast?_append];rfl
 have ho:j4 ⟨"endtry",.non,l⟩ (d,gs++[g])=true:=by
  unfold j4 Qj
  have e1:decide (d < qD ⟨"endtry",.non,l⟩)=false:=kf (by rw [jB.asked];lia)
  have e2:qS ⟨"endtry",.non,l⟩ d (some g)=false:=by
   unfold qS
   dsimp only
   rw [jB.asked]
   split
   ·rfl
   ·refine kf ?_
    split <;> split <;> lia
  show (!decide (d < qD ⟨"endtry",.non,l⟩)&& !(decide (("endtry":Str)="endtry")&&(gs++[g]).getLast?.isNone)&& !qS ⟨"endtry",.non,l⟩ d (gs++[g]).getLast?&&decide ((gs++[g]).length≤1000))=true
  rw [hl,e1,e2,kg (show (gs++[g]).length≤1000 by rw [ki];exact hz)]
  rfl
 rw [js (show ("endtry":Str)≠"label" by trivial) ho ?_,jB.next,kr rfl]
 ·unfold qr
  rw [kq (by decide),kr rfl,kE]
  congr 3
  show d - 0+0=d
  lia
 ·intro t ht
  unfold tgts at ht
  rw [jB.jump,jB.fault] at ht
  cases ht
theorem z03 (h0:0≤d) (ht:∀g,gs.getLast?=some g→g.2≤d) (hz:gs.length≤1000) (hE:GEnv Γ gs):chk Γ [⟨"raise",.non,l⟩] (some (d+1,gs))=some none:=by
 rw [js (show ("raise":Str)≠"label" by trivial) (qV (by rw [Zi.asked];lia) (fun g e=>by rw [Zi.asked];have:=ht g e;lia) (show ("raise":Str)≠"endtry" by trivial) hz) ?_,Zi.next]
 ·rfl
 ·intro t ht
  unfold tgts at ht
  rw [Zi.jump,Zi.fault,kq ka,kr rfl,List.nil_append] at ht
  cases e:gs.getLast? with
  | none=>rw [show ((d+1,gs):Sta).2.getLast?=none from e] at ht;cases ht
  | some g=>
   rw [show ((d+1,gs):Sta).2.getLast?=some g from e] at ht
   rw [kl.mp ht]
   exact hE g e
theorem z25 (h0:0≤d) (ht:∀g,gs.getLast?=some g→g.2≤d) (hz:gs.length≤1000):chk Γ [⟨"return",.non,l⟩] (some (d+1,gs))=some none:=by
 rw [js (show ("return":Str)≠"label" by trivial) (qV (by rw [jz.asked];lia) (fun g e=>by rw [jz.asked];have:=ht g e;lia) (show ("return":Str)≠"endtry" by trivial) hz) ?_,jz.next]
 ·rfl
 ·intro t ht
  unfold tgts at ht
  rw [jz.jump,jz.fault] at ht
  cases ht
theorem qw {c:Option Sta} (h0:0≤d) (ht:∀g,gs.getLast?=some g→g.2≤d) (hz:gs.length≤1000) (hΓ:Γ m=some (d,gs)) (hc:c=none∨c=some (d,gs)):chk Γ [⟨"label",.int m,l⟩] c=some (some (d,gs)):=by
 have ho:j4 ⟨"label",.int m,l⟩ (d,gs)=true:=qV (by rw [z13.asked];lia) (fun g e=>by rw [z13.asked];have:=ht g e;lia) (show ("label":Str)≠"endtry" by trivial) hz
 rw [jS,kr rfl,show Γ (argM (.int m))=some (d,gs) from hΓ]
 rcases hc with rfl | rfl
 ·dsimp only
  rw [kr ho]
  rfl
 ·dsimp only
  rw [kr ⟨rfl,ho⟩]
  rfl
theorem zX (hΓ:Γ m=none):chk Γ [⟨"label",.int m,l⟩] none=some none:=by
 rw [jS,kr rfl,show Γ (argM (.int m))=none from hΓ]
 rfl
end
theorem Ty.sure {δ:Int} {k k':Nat} {l:List Row} (x:Ty δ true k k' l) {d:Int} {gs:List Gd} (hg:GOk d gs l.length):∃Γl:Int→Option Sta,∀Γ,Ext Γ Γl k k'→GEnv Γ gs→chk Γ l (some (d,gs))=some (some (d+δ,gs)):=by
 obtain ⟨Γl,c',h,q⟩:=x.go d gs hg
 rcases h with h | ⟨h,_⟩
 ·rw [h] at q;exact ⟨Γl,q⟩
 ·cases h
theorem Ty.orv {k k1 k2:Nat} {l1 l2:List Row} (x:Ty 1 true (k+1) k1 l1) (y:Ty 1 true k1 k2 l2) (h1:k+1≤k1) (h2:k1≤k2) {op:Str} (ho:op∈(["ortrue","orfalse"]:List Str)) (a b:Int):
  Ty 1 true k k2 (l1++[⟨op,.int (k:Int),a⟩]++l2++[⟨"label",.int (k:Int),b⟩]):=by
 refine ⟨fun d gs hg=>?_,fun Γ hΓ=>?_⟩
 ·have hl:=hg.len
  simp only [ki,kC] at hl
  obtain ⟨Γ1,q1⟩:=x.sure (d:=d) (gs:=gs) ⟨hg.pos,by lia,hg.top⟩
  obtain ⟨Γ2,q2⟩:=y.sure (d:=d) (gs:=gs) ⟨hg.pos,by lia,hg.top⟩
  refine ⟨fun m=>if m=(k:Int) then some (d+1,gs) else if m < (k1:Int) then Γ1 m else Γ2 m,some (d+1,gs),.inl rfl,fun Γ he hE=>?_⟩
  have ek:Γ (k:Int)=some (d+1,gs):=(he k (kc _) (by lia)).trans (kr rfl)
  have e1:Ext Γ Γ1 (k+1) k1:=fun m m1 m2=>(he m (by lia) (by lia)).trans ((kq (by lia)).trans (kr (by lia)))
  have e2:Ext Γ Γ2 k1 k2:=fun m m1 m2=>(he m (by lia) (by lia)).trans ((kq (by lia)).trans (kq (by lia)))
  have t1:∀g,gs.getLast?=some g→g.2≤d+1:=fun g e=>by have:=hg.top g e;lia
  rw [zl,zl,zl,q1 Γ e1 hE,kb,z7t ho hg.pos hg.top (by lia) ek,kb,q2 Γ e2 hE,kb]
  exact qw (by have:=hg.pos;lia) t1 (by lia) ek (.inr rfl)
 ·have ek:Γ (k:Int)=none:=hΓ k (kc _) (by lia)
  rw [zl,zl,zl,x.off Γ fun m m1 m2=>hΓ m (by lia) (by lia),kb,zR (z70 op ho).2.1,kb,y.off Γ fun m m1 m2=>hΓ m (by lia) m2,kb]
  exact zX ek
theorem Ty.triedv {k k':Nat} {l:List Row} (x:Ty 1 true (k+2) k' l) (h1:k+2≤k') (a b c e f:Int):
  Ty 1 true k k' ([⟨"try",.int (k:Int),a⟩]++l++[⟨"endtry",.non,b⟩]++[⟨"jump",.int ((k+1:Nat):Int),c⟩]++[⟨"label",.int (k:Int),e⟩]++[⟨"label",.int ((k+1:Nat):Int),f⟩]):=by
 refine ⟨fun d gs hg=>?_,fun Γ hΓ=>?_⟩
 ·have hl:=hg.len
  simp only [ki,kC] at hl
  have hlast:(gs++[((k:Int),d)]).getLast?=some ((k:Int),d):=by rw [List.getLast?_append];rfl
  obtain ⟨Γ1,q1⟩:=x.sure (d:=d) (gs:=gs++[((k:Int),d)]) ⟨hg.pos,by rw [ki,kC];lia,fun g z=>by rw [hlast] at z;cases z;exact Int.le_refl _⟩
  refine ⟨fun m=>if m=(k:Int) then some (d+1,gs) else if m=((k+1:Nat):Int) then some (d+1,gs) else Γ1 m,some (d+1,gs),.inl rfl,fun Γ he hE=>?_⟩
  have ek:Γ (k:Int)=some (d+1,gs):=(he k (kc _) (by lia)).trans (kr rfl)
  have ek1:Γ ((k+1:Nat):Int)=some (d+1,gs):=(he (k+1) (by lia) (by lia)).trans ((kq (by lia)).trans (kr rfl))
  have e1:Ext Γ Γ1 (k+2) k':=fun m m1 m2=>(he m (by lia) m2).trans ((kq (by lia)).trans (kq (by lia)))
  have hE1:GEnv Γ (gs++[((k:Int),d)]):=fun g z=>by
   rw [hlast] at z
   cases z
   rw [kE]
   exact ek
  have t1:∀g,gs.getLast?=some g→g.2≤d+1:=fun g z=>by have:=hg.top g z;lia
  have p1:0≤d+1:=by have:=hg.pos;lia
  rw [zl,zl,zl,zl,zl,z3G hg.pos hg.top (by lia),kb,q1 Γ e1 hE1,kb,QK p1 (by show d≤d+1;lia) (by lia),kb,ZZ p1 t1 (by lia) ek1,kb,qw p1 t1 (by lia) ek (.inl rfl),kb]
  exact qw p1 t1 (by lia) ek1 (.inr rfl)
 ·have ek:Γ (k:Int)=none:=hΓ k (kc _) (by lia)
  have ek1:Γ ((k+1:Nat):Int)=none:=hΓ (k+1) (by lia) (by lia)
  rw [zl,zl,zl,zl,zl,zR (show ("try":Str)≠"label" by trivial),kb,x.off Γ fun m m1 m2=>hΓ m (by lia) m2,kb,zR (show ("endtry":Str)≠"label" by trivial),kb,zR (show ("jump":Str)≠"label" by trivial),kb,zX ek,kb]
  exact zX ek1
theorem Ty.round {k k1 k2:Nat} {l1 l2:List Row} {su:Bool} (x:Ty 1 true (k+2) k1 l1) (y:Ty 0 su k1 k2 l2) (h1:k+2≤k1) (h2:k1≤k2) (a b c e:Int):
  Ty 0 true k k2 ([⟨"label",.int (k:Int),a⟩]++l1++[⟨"iffalse",.int ((k+1:Nat):Int),b⟩]++l2++[⟨"jump",.int (k:Int),c⟩]++[⟨"label",.int ((k+1:Nat):Int),e⟩]):=by
 refine ⟨fun d gs hg=>?_,fun Γ hΓ=>?_⟩
 ·have hl:=hg.len
  simp only [ki,kC] at hl
  obtain ⟨Γ1,q1⟩:=x.sure (d:=d) (gs:=gs) ⟨hg.pos,by lia,hg.top⟩
  obtain ⟨Γ2,c2,hc2,q2⟩:=y.go d gs ⟨hg.pos,by lia,hg.top⟩
  refine ⟨fun m=>if m=(k:Int) then some (d,gs) else if m=((k+1:Nat):Int) then some (d,gs) else if m < (k1:Int) then Γ1 m else Γ2 m,some (d+0,gs),.inl rfl,fun Γ he hE=>?_⟩
  have ek:Γ (k:Int)=some (d,gs):=(he k (kc _) (by lia)).trans (kr rfl)
  have ek1:Γ ((k+1:Nat):Int)=some (d,gs):=(he (k+1) (by lia) (by lia)).trans ((kq (by lia)).trans (kr rfl))
  have e1:Ext Γ Γ1 (k+2) k1:=fun m m1 m2=>(he m (by lia) (by lia)).trans ((kq (by lia)).trans ((kq (by lia)).trans (kr (by lia))))
  have e2:Ext Γ Γ2 k1 k2:=fun m m1 m2=>(he m (by lia) m2).trans ((kq (by lia)).trans ((kq (by lia)).trans (kq (by lia))))
  rw [zl,zl,zl,zl,zl,qw hg.pos hg.top (by lia) ek (.inr rfl),kb,q1 Γ e1 hE,kb,z5o (by trivial) hg.pos hg.top (by lia) ek1,kb,q2 Γ e2 hE,kb,Int.add_zero]
  rcases hc2 with rfl | ⟨_,rfl⟩
  ·rw [Int.add_zero,ZZ hg.pos hg.top (by lia) ek,kb]
   exact qw hg.pos hg.top (by lia) ek1 (.inl rfl)
  ·rw [zR (show ("jump":Str)≠"label" by trivial),kb]
   exact qw hg.pos hg.top (by lia) ek1 (.inl rfl)
 ·have ek:Γ (k:Int)=none:=hΓ k (kc _) (by lia)
  have ek1:Γ ((k+1:Nat):Int)=none:=hΓ (k+1) (by lia) (by lia)
  rw [zl,zl,zl,zl,zl,zX ek,kb,x.off Γ fun m m1 m2=>hΓ m (by lia) (by lia),kb,zR (show ("iffalse":Str)≠"label" by trivial),kb,y.off Γ fun m m1 m2=>hΓ m (by lia) m2,kb,zR (show ("jump":Str)≠"label" by trivial),kb]
  exact zX ek1
theorem Ty.choice {k k1 k2 k3:Nat} {l1 l2 l3:List Row} {s2 s3:Bool} (x:Ty 1 true (k+2) k1 l1) (y:Ty 0 s2 k1 k2 l2) (z:Ty 0 s3 k2 k3 l3) (h1:k+2≤k1) (h2:k1≤k2) (h3:k2≤k3) {op:Str} (ho:op∈(["iftrue","iffalse"]:List Str)) (a b c e:Int):
  Ty 0 true k k3 (l1++[⟨op,.int (k:Int),a⟩]++l2++[⟨"jump",.int ((k+1:Nat):Int),b⟩]++[⟨"label",.int (k:Int),c⟩]++l3++[⟨"label",.int ((k+1:Nat):Int),e⟩]):=by
 refine ⟨fun d gs hg=>?_,fun Γ hΓ=>?_⟩
 ·have hl:=hg.len
  simp only [ki,kC] at hl
  obtain ⟨Γ1,q1⟩:=x.sure (d:=d) (gs:=gs) ⟨hg.pos,by lia,hg.top⟩
  obtain ⟨Γ2,c2,hc2,q2⟩:=y.go d gs ⟨hg.pos,by lia,hg.top⟩
  obtain ⟨Γ3,c3,hc3,q3⟩:=z.go d gs ⟨hg.pos,by lia,hg.top⟩
  refine ⟨fun m=>if m=(k:Int) then some (d,gs) else if m=((k+1:Nat):Int) then some (d,gs) else if m < (k1:Int) then Γ1 m else if m < (k2:Int) then Γ2 m else Γ3 m,some (d+0,gs),.inl rfl,fun Γ he hE=>?_⟩
  have ek:Γ (k:Int)=some (d,gs):=(he k (kc _) (by lia)).trans (kr rfl)
  have ek1:Γ ((k+1:Nat):Int)=some (d,gs):=(he (k+1) (by lia) (by lia)).trans ((kq (by lia)).trans (kr rfl))
  have e1:Ext Γ Γ1 (k+2) k1:=fun m m1 m2=>(he m (by lia) (by lia)).trans ((kq (by lia)).trans ((kq (by lia)).trans (kr (by lia))))
  have e2:Ext Γ Γ2 k1 k2:=fun m m1 m2=>(he m (by lia) (by lia)).trans ((kq (by lia)).trans ((kq (by lia)).trans ((kq (by lia)).trans (kr (by lia)))))
  have e3:Ext Γ Γ3 k2 k3:=fun m m1 m2=>(he m (by lia) (by lia)).trans ((kq (by lia)).trans ((kq (by lia)).trans ((kq (by lia)).trans (kq (by lia)))))
  have j:chk Γ [⟨"jump",.int ((k+1:Nat):Int),b⟩] c2=some none:=by
   rcases hc2 with rfl | ⟨_,rfl⟩
   ·rw [Int.add_zero]
    exact ZZ hg.pos hg.top (by lia) ek1
   ·exact zR (show ("jump":Str)≠"label" by trivial)
  rw [zl,zl,zl,zl,zl,zl,q1 Γ e1 hE,kb,z5o ho hg.pos hg.top (by lia) ek,kb,q2 Γ e2 hE,kb,j,kb,qw hg.pos hg.top (by lia) ek (.inl rfl),kb,q3 Γ e3 hE,kb,Int.add_zero]
  refine qw hg.pos hg.top (by lia) ek1 ?_
  rcases hc3 with rfl | ⟨_,rfl⟩
  ·exact .inr (by rw [Int.add_zero])
  ·exact .inl rfl
 ·have ek:Γ (k:Int)=none:=hΓ k (kc _) (by lia)
  have ek1:Γ ((k+1:Nat):Int)=none:=hΓ (k+1) (by lia) (by lia)
  rw [zl,zl,zl,zl,zl,zl,x.off Γ fun m m1 m2=>hΓ m (by lia) (by lia),kb,zR (z73 op ho).2.1,kb,y.off Γ fun m m1 m2=>hΓ m (by lia) (by lia),kb,zR (show ("jump":Str)≠"label" by trivial),kb,zX ek,kb,z.off Γ fun m m1 m2=>hΓ m (by lia) m2,kb]
  exact zX ek1
theorem Ty.rais {k k':Nat} {l:List Row} (x:Ty 1 true k k' l) (a:Int):Ty 0 false k k' (l++[⟨"raise",.non,a⟩]):=by
 refine ⟨fun d gs hg=>?_,fun Γ hΓ=>?_⟩
 ·have hl:=hg.len
  simp only [ki,kC] at hl
  obtain ⟨Γ1,q1⟩:=x.sure (d:=d) (gs:=gs) ⟨hg.pos,by lia,hg.top⟩
  refine ⟨Γ1,none,.inr ⟨rfl,rfl⟩,fun Γ he hE=>?_⟩
  rw [zl,q1 Γ he hE,kb]
  exact z03 hg.pos hg.top (by lia) hE
 ·rw [zl,x.off Γ hΓ,kb]
  exact zR (show ("raise":Str)≠"label" by trivial)
theorem Ty.weak {δ:Int} {su:Bool} {k k':Nat} {l:List Row} (x:Ty δ su k k' l):Ty δ false k k' l:=by
 refine ⟨fun d gs hg=>?_,x.off⟩
 obtain ⟨Γl,c',h,q⟩:=x.go d gs hg
 refine ⟨Γl,c',?_,q⟩
 rcases h with h | ⟨_,h⟩
 ·exact .inl h
 ·exact .inr ⟨rfl,h⟩
theorem z4x {Γ:Int→Option Sta} {op:Str} (h:op∈(["drop","tell","raise"]:List Str)) (ln:Int) {d:Int} {gs:List Gd} (h0:0≤d) (ht:∀g,gs.getLast?=some g→g.2≤d) (hz:gs.length≤1000) (hE:GEnv Γ gs):chk Γ [⟨op,.non,ln⟩] (some (d+1,gs))=some (if op="raise" then none else some (d,gs)):=by
 simp only [ky,km,or_false] at h
 have e:d+1 - 1+0=d:=by lia
 rcases h with rfl | rfl | rfl
 ·rw [(Z2 "drop" (by trivial)).chk .non ln (by lia) (fun g z=>by have:=ht g z;lia) hz hE,e,kq (by trivial)]
 ·rw [(Z2 "tell" (by trivial)).chk .non ln (by lia) (fun g z=>by have:=ht g z;lia) hz hE,e,kq (by trivial)]
 ·rw [z03 h0 ht hz hE,kr rfl]
theorem Ty.tried {k k1 k2:Nat} {l1 l2:List Row} {s1 s2:Bool} (x:Ty 0 s1 (k+2) k1 l1) (y:Ty 0 s2 k1 k2 l2) (h1:k+2≤k1) (h2:k1≤k2) {op:Str} (ho:op∈(["drop","tell","raise"]:List Str)) (a b c e f g':Int):
  Ty 0 true k k2 ([⟨"try",.int (k:Int),a⟩]++l1++[⟨"endtry",.non,b⟩]++[⟨"jump",.int ((k+1:Nat):Int),c⟩]++[⟨"label",.int (k:Int),e⟩]++[⟨op,.non,f⟩]++l2++[⟨"label",.int ((k+1:Nat):Int),g'⟩]):=by
 have hopl:op≠"label":=by
  simp only [ky,km,or_false] at ho
  rcases ho with rfl | rfl | rfl <;> decide+kernel
 refine ⟨fun d gs hg=>?_,fun Γ hΓ=>?_⟩
 ·have hl:=hg.len
  simp only [ki,kC] at hl
  have hlast:(gs++[((k:Int),d)]).getLast?=some ((k:Int),d):=by rw [List.getLast?_append];rfl
  obtain ⟨Γ1,c1,hc1,q1⟩:=x.go d (gs++[((k:Int),d)]) ⟨hg.pos,by rw [ki,kC];lia,fun g z=>by rw [hlast] at z;cases z;exact Int.le_refl _⟩
  obtain ⟨Γ2,c2,hc2,q2⟩:=y.go d gs ⟨hg.pos,by lia,hg.top⟩
  refine ⟨fun m=>if m=(k:Int) then some (d+1,gs) else if m=((k+1:Nat):Int) then some (d,gs) else if m < (k1:Int) then Γ1 m else if op="raise" then none else Γ2 m,some (d+0,gs),.inl rfl,fun Γ he hE=>?_⟩
  have ek:Γ (k:Int)=some (d+1,gs):=(he k (kc _) (by lia)).trans (kr rfl)
  have ek1:Γ ((k+1:Nat):Int)=some (d,gs):=(he (k+1) (by lia) (by lia)).trans ((kq (by lia)).trans (kr rfl))
  have e1:Ext Γ Γ1 (k+2) k1:=fun m m1 m2=>(he m (by lia) (by lia)).trans ((kq (by lia)).trans ((kq (by lia)).trans (kr (by lia))))
  have e2:∀m:Nat,k1≤m→m < k2→Γ (m:Int)=if op="raise" then none else Γ2 (m:Int):=fun m m1 m2=>(he m (by lia) (by lia)).trans ((kq (by lia)).trans ((kq (by lia)).trans (kq (by lia))))
  have hE1:GEnv Γ (gs++[((k:Int),d)]):=fun g z=>by
   rw [hlast] at z
   cases z
   rw [kE]
   exact ek
  have t1:∀g,gs.getLast?=some g→g.2≤d+1:=fun g z=>by have:=hg.top g z;lia
  have p1:0≤d+1:=by have:=hg.pos;lia
  have j:(chk Γ [⟨"endtry",.non,b⟩] c1).bind (fun c'=>chk Γ [⟨"jump",.int ((k+1:Nat):Int),c⟩] c')=some none:=by
   rcases hc1 with rfl | ⟨_,rfl⟩
   ·rw [Int.add_zero,QK hg.pos (Int.le_refl d) (by lia),kb]
    exact ZZ hg.pos hg.top (by lia) ek1
   ·rw [zR (show ("endtry":Str)≠"label" by trivial),kb]
    exact zR (show ("jump":Str)≠"label" by trivial)
  have z:(chk Γ [⟨op,.non,f⟩] (some (d+1,gs))).bind (fun c'=>chk Γ l2 c')=some (if op="raise" then none else c2):=by
   rw [z4x ho f hg.pos hg.top (by lia) hE,kb]
   by_cases hr:op="raise"
   ·rw [kr hr,kr hr]
    exact y.off Γ fun m m1 m2=>(e2 m m1 m2).trans (kr hr)
   ·rw [kq hr,kq hr]
    exact q2 Γ (fun m m1 m2=>(e2 m m1 m2).trans (kq hr)) hE
  have z2:(if op="raise" then none else c2)=none∨(if op="raise" then none else c2)=some (d,gs):=by
   by_cases hr:op="raise"
   ·rw [kr hr];exact .inl rfl
   ·rw [kq hr]
    rcases hc2 with rfl | ⟨_,rfl⟩
    ·exact .inr (by rw [Int.add_zero])
    ·exact .inl rfl
  rw [zl,zl,zl,zl,zl,zl,zl,z3G hg.pos hg.top (by lia),kb,q1 Γ e1 hE1,kb,j,kb,qw p1 t1 (by lia) ek (.inl rfl),kb,z,kb,Int.add_zero]
  exact qw hg.pos hg.top (by lia) ek1 z2
 ·have ek:Γ (k:Int)=none:=hΓ k (kc _) (by lia)
  have ek1:Γ ((k+1:Nat):Int)=none:=hΓ (k+1) (by lia) (by lia)
  rw [zl,zl,zl,zl,zl,zl,zl,zR (show ("try":Str)≠"label" by trivial),kb,x.off Γ fun m m1 m2=>hΓ m (by lia) (by lia),kb,zR (show ("endtry":Str)≠"label" by trivial),kb,zR (show ("jump":Str)≠"label" by trivial),kb,zX ek,kb,zR hopl,kb,y.off Γ fun m m1 m2=>hΓ m (by lia) m2,kb]
  exact zX ek1
structure Deep (op:Str) (b:Int):Prop where
 lab:op≠"label"
 et:op≠"endtry"
 deep:inT op jr=true
 takes:tabI j8 op=0
 pushes:tabI qX op=b
 on:inT op qF=false
 jump:inT op jumping=false
 gput:tabI qu op=0
 fault:inT op faulting=false
theorem z6h:Deep "swap" 0:=⟨by trivial,by trivial,by trivial,by trivial,by trivial,by trivial,by trivial,by trivial,by trivial⟩
theorem z6i:Deep "copy" 1:=⟨by trivial,by trivial,by trivial,by trivial,by trivial,by trivial,by trivial,by trivial,by trivial⟩
theorem Ty.deep {δ:Int} {k k':Nat} {l:List Row} (x:Ty δ true k k' l) {op:Str} {b:Int} (h:Deep op b) {n:Int} (hn:n≤δ) (ln:Int):Ty (δ+b) true k k' (l++[⟨op,.int n,ln⟩]):=by
 have ha:qD ⟨op,.int n,ln⟩=n:=by
  unfold qD
  rw [h.deep,kr rfl]
 refine ⟨fun d gs hg=>?_,fun Γ hΓ=>?_⟩
 ·have hl:=hg.len
  simp only [ki,kC] at hl
  obtain ⟨Γ1,q1⟩:=x.sure (d:=d) (gs:=gs) ⟨hg.pos,by lia,hg.top⟩
  refine ⟨Γ1,some (d+(δ+b),gs),.inl rfl,fun Γ he hE=>?_⟩
  rw [zl,q1 Γ he hE,kb,js h.lab (qV (by rw [ha];have:=hg.pos;lia) (fun g e=>by rw [ha];have:=hg.top g e;lia) h.et (by lia)) ?_]
  ·unfold ZO qC
   rw [h.on,kq ka,h.takes,h.pushes,h.gput,gs0]
   congr 3
   show d+δ - 0+b=d+(δ+b)
   lia
  ·intro t ht
   unfold tgts at ht
   rw [h.jump,h.fault] at ht
   cases ht
 ·rw [zl,x.off Γ hΓ,kb]
  exact zR h.lab
theorem Ty.whole {k k1 k2:Nat} {l1 l2:List Row} {su:Bool} (x:Ty 0 su k k1 l1) (y:Ty 1 true k1 k2 l2) (h1:k≤k1) (h2:k1≤k2) (a:Int) (hz:l1.length+l2.length≤998):
  ∃Γl:Int→Option Sta,∀Γ,Ext Γ Γl k k2→chk Γ (l1++l2++[⟨"return",.non,a⟩]) (some (0,[]))=some none:=by
 have xy:=x.app y h1 h2 (Int.le_refl 0)
 obtain ⟨Γl,c',hc,q⟩:=xy.go 0 [] ⟨Int.le_refl _,by simp only [ki,List.length_nil];lia,nofun⟩
 refine ⟨Γl,fun Γ he=>?_⟩
 rw [zl,q Γ he nofun,kb]
 rcases hc with rfl | ⟨_,rfl⟩
 ·rw [show (0:Int)+(0+1)=0+1 by decide]
  exact z25 (Int.le_refl 0) nofun (by decide)
 ·exact zR (show ("return":Str)≠"label" by trivial)
def Jk (H H':Hp) (t:Addr):Prop:=∀b o,H b=some o→b≠t→H' b=some o
noncomputable def okV (_:V):Bool:=true
def Scr (K:ko) (H:Hp) (a:Addr) (xs:List V):Prop:=
 (∃o,H a=some (.frz o (.lst xs)))∨∃(o:Obj) (its:Array Value) (n:Nat),K.lookup a=some o∧o.cls=.type "list"∧o.dict=none∧o.data=.seq its n∧its.size≤sizeLine∧Vals xs its.toList
theorem Scr.sq {K:ko} {H:Hp} {a:Addr} {xs:List V} (h:Scr K H a xs):SqL K H a xs:=by
 rcases h with ⟨o,h⟩ | h
 ·exact .inl (.inr ⟨o,h⟩)
 ·exact .inr h
def z8f (H H':Hp) (t r m:Addr):Prop:=∀b o,H b=some o→b≠t→b≠r→b≠m→H' b=some o
theorem Scr.keep {K:ko} {H H':Hp} {a:Addr} {xs:List V} (h:Scr K H a xs) (k:∀o u,H a=some (.frz o u)→H' a=some (.frz o u)):Scr K H' a xs:=by
 rcases h with ⟨o,h⟩ | h
 ·exact .inl ⟨o,k _ _ h⟩
 ·exact .inr h
theorem Scr.keep1 {K:ko} {H H':Hp} {a t:Addr} {xs ys:List V} (h:Scr K H a xs) (k:Jk H H' t) (ht:H t=some (.lst ys)):Scr K H' a xs:=h.keep fun o u e=>k _ _ e (jC e ht nofun)
noncomputable def qQ (c:Nat) (cells:List Int):List V:=.int (c:Int) :: cells.map V.int
section
def z0Q (K:ko):Sp:=fun vs H Q _=>∃(a t:Addr) (ns:List Int) (c:Nat) (cells:List Int) (many:Int),vs=[.ref a,.ref t,.int many]∧Scr K H a (ns.map V.int)∧ns.length≤1000∧cells.length=ns.length∧H t=some (.lst (qQ c cells))∧c≤100000∧1≤many∧many≤1000∧
 ∀(i:Int) (cells':List Int) H',0≤i→i < many→cells'.length=ns.length→H' t=some (.lst (qQ (c+1) cells'))→Jk H H' t→Q (.int i) H'
theorem sc63:zn ["_law_script","_law_town_here","_law_many","_law_at","_law_left","_law_number"] ["_law_script","_law_town_here","_law_many"] (ze (top 63)):=fsM
theorem z4A {cells:List Int} {i:Int} (h0:0≤i) (h1:i < (cells.length:Int)) (c:Nat):∃z,atI (qQ c cells) (1+i)=some (.int z):=by
 obtain ⟨j,rfl⟩:=kU h0
 have hj:j < cells.length:=by lia
 have e:(1:Int)+(j:Int)=((j+1:Nat):Int):=by lia
 refine ⟨cells[j],?_⟩
 rw [e]
 refine zy ?_
 unfold qQ
 rw [List.getElem?_cons_succ,List.getElem?_map,kH hj]
 rfl
theorem z1T {ns:List Int} {i:Int} (h0:0≤i) (h1:i < (ns.length:Int)):∃z,atI (ns.map V.int) i=some (.int z):=by
 obtain ⟨j,rfl⟩:=kU h0
 have hj:j < ns.length:=by lia
 refine ⟨ns[j],zy ?_⟩
 rw [List.getElem?_map,kH hj]
 rfl
theorem z44 {c:Nat} {cells:List Int} {i:Int} (h0:0≤i) (h1:i < (cells.length:Int)) (z:Int):∃j cells',ixN (qQ c cells).length (1+i)=some j∧(qQ c cells).set j (.int z)=qQ c cells'∧cells'.length=cells.length:=by
 obtain ⟨j,rfl⟩:=kU h0
 refine ⟨j+1,cells.set j z,?_,?_,by simp⟩
 ·unfold ixN qQ
  rw [kr (by lia),kr (by simp;lia)]
  congr 1
  lia
 ·unfold qQ
  rw [List.set_cons_succ,List.map_set]
theorem ix0 {c:Nat} {cells:List Int}:ixN (qQ c cells).length 0=some 0:=by
 unfold ixN qQ
 rw [kr (by decide),kr (by simp <;> lia)]
 rfl
theorem z6d (D:zi K mg "_law_draw" (top 63)) (G:Glo mg):FN P w K mg base 1 "_law_draw" ["_law_script","_law_town_here","_law_many"] (z0Q K):=by
 refine FN.o D sc63 fun f cdv A outer s H vs Q E hr h=>?_
 obtain ⟨a,t,ns,c,cells,many,rfl,hS,hns,hcl,hT,hc,hm1,hm2,q⟩:=h
 have hu:A.units+3 < cLine:=by have:=hr.units0;exact this
 refine ⟨_,z8 (ZG (zO ja (qa zK (pv 1) zh (fun _ _=>rfl)) zh) (z0U (pv 1) zh ZU))
  (z8 (qg (zr (z5g (hr.units0)) (pv 0) (qe z7) (zB _))
   (zf (zv (zO Qd (zO Qe (zO z12 (zO z12 (qa zK (pv 1) zh (fun _ _=>rfl)) (qa zK (pv 1) zh (fun _ _=>rfl))) zh) zh) (pv 2)))) zH)
  (z8 (zC (i:=3) sc63.nd rfl (Or.inl rfl) (zO Qd (qa zK (pv 1) zh (fun _ _=>rfl)) (zw zx rfl G.len zS (z6 (pv 0) z7))))
  (z8 (zC (i:=4) sc63.nd rfl (Or.inl rfl) (qa zK (pv 1) (zO ja zh (pv 3)) (fun _ _=>rfl)))
  (z8 (qg (PW.pt (Qy (zr z7V (qa zK (pv 0) (pv 3) (fun _ _=>rfl)) (zO z2U zh zh) (zB _)) (Zy (zr z2V (pv 4) zh (zB _)))))
   (z8 (ZG (zO Qe (pv 4) (pv 2)) (z0U (pv 1) (zO ja zh (pv 3)) ZU)) (zf (zv (zO Qd (pv 4) (pv 2))))) zH)
  (z8 (zC (i:=5) sc63.nd rfl (Or.inl rfl) (zO Qd (zO ja (qa zK (pv 0) (pv 3) (fun _ _=>rfl)) (zO z12 zh (qa zK (pv 1) zh (fun _ _=>rfl)))) zh))
  (z8 (zC (i:=5) sc63.nd rfl (Or.inl rfl) (zO Qd (zO z2U (pv 5) zh) zh))
  (zf (zv (zO Qd (zO Qe (zO Qd (zO ja (zO z12 (zO Qe (pv 5) zh) zh) (pv 5)) zh) zh) (pv 2)))))))))),?_⟩
 have hmod:∀x:Int,0≤x % many∧x % many < many:=fun x=>⟨Int.emod_nonneg _ (by lia),Int.emod_lt_of_pos _ (by lia)⟩
 have cdm:CDiv 0 many:=⟨by lia,by lia⟩
 refine ⟨_,rfl,t,_,_,_,rfl,rfl,SqL.of hT,zy (j:=0) rfl,_,_,rfl,rfl,?_⟩
 refine ⟨_,rfl,t,_,_,0,rfl,rfl,hT,ix0,?_⟩
 have e1:(qQ c cells).set 0 (V.int ((c:Int)+1))=qQ (c+1) cells:=by
  unfold qQ
  rw [List.set_cons_zero]
  rfl
 rw [e1]
 generalize hH1:upd H t (.lst (qQ (c+1) cells))=H1
 have hT1:H1 t=some (.lst (qQ (c+1) cells)):=by rw [←hH1];exact zb
 have k1:Jk H H1 t:=fun b o e hb=>by rw [←hH1,zg hb];exact e
 have hS1:=hS.keep1 k1 hT
 refine ⟨_,rfl,by show 0≤sizeLine;decide,fun p hp=>?_⟩
 have s2:Same H1 (upd H1 p (.lst [])):=zk hp _
 have hT2:=s2 _ _ hT1
 have hS2:Scr K (upd H1 p (.lst [])) a (ns.map V.int):=hS1.keep fun o u e=>s2 _ _ e
 have k2:Jk H (upd H1 p (.lst [])) t:=fun b o e hb=>s2 _ _ (k1 b o e hb)
 generalize hH2:upd H1 p (.lst [])=H2 at *
 have hp2:H2 p=some (.lst []):=by rw [←hH2];exact zb
 refine ⟨a,p,_,rfl,rfl,hS2.sq,SqL.of hp2,_,rfl,?_⟩
 refine ite2 (fun ce=>?_) (fun ce=>?_)
 ·refine ⟨_,rfl,t,_,_,_,rfl,rfl,SqL.of hT2,zy (j:=0) rfl,_,rfl,t,_,_,_,rfl,rfl,SqL.of hT2,zy (j:=0) rfl,_,_,rfl,rfl,.inl ⟨by lia,by lia⟩,_,_,rfl,rfl,.inr ⟨by decide,by decide⟩,_,_,rfl,rfl,⟨by decide,by decide⟩,_,rfl,_,_,rfl,rfl,by lia,?_⟩
  exact q _ cells H2 (hmod _).1 (hmod _).2 hcl hT2 k2
 ·have hne:ns≠[]:=fun z=>ce (by rw [z];rfl)
  have hpos:0 < ns.length:=List.length_pos_iff.mpr hne
  refine ⟨_,rfl,t,_,_,_,rfl,rfl,SqL.of hT2,zy (j:=0) rfl,_,rfl,a,_,rfl,.inl hS2.sq,_,_,rfl,rfl,by rw [kh];lia,?_⟩
  rw [kh]
  have a0:0≤((c+1:Nat):Int) % (ns.length:Int):=Int.emod_nonneg _ (by lia)
  have a1:((c+1:Nat):Int) % (ns.length:Int) < (ns.length:Int):=Int.emod_lt_of_pos _ (by lia)
  obtain ⟨z,hz⟩:=z4A (cells:=cells) a0 (by rw [hcl];exact a1) (c+1)
  obtain ⟨y,hy⟩:=z1T (ns:=ns) a0 a1
  refine ⟨_,rfl,_,rfl,_,_,rfl,rfl,t,_,_,_,rfl,rfl,SqL.of hT2,hz,?_⟩
  refine ⟨_,rfl,_,rfl,a,_,_,_,rfl,rfl,hS2.sq,hy,_,_,rfl,rfl,⟨by decide,by decide,by decide⟩,_,_,rfl,rfl,_,rfl,?_⟩
  have rest:tSeq (tAsg (tOp (rI (fun _ j=>0 < j) fun i j=>.int (i % j)) (tOp (rI0 fun i j=>.int (i+j)) (tOp (rIxL K) (tVar 0) (tVar 3)) (tOp (rI CMul fun i j=>.int (i * j)) (tC (.int 104729)) (tOp (rIxL K) (tVar 1) (tC (.int 0))))) (tC (.int 4294967291))) (z1U 5))
    (tSeq (tAsg (tOp (rI (fun _ j=>0 < j) fun i j=>.int (i % j)) (tOp (rI CPow fun i j=>.int (i ^ j.toNat)) (tVar 5) (tC (.int 5))) (tC (.int 4294967279))) (z1U 5))
    (tRet (tOp (rI (fun _ j=>0 < j) fun i j=>.int (i % j)) (tOp (rI CDiv fun i j=>.int (i / j)) (tOp (rI (fun _ j=>0 < j) fun i j=>.int (i % j)) (tOp (rI0 fun i j=>.int (i+j)) (tOp (rI CMul fun i j=>.int (i * j)) (tOp (rI CDiv fun i j=>.int (i / j)) (tVar 5) (tC (.int 64))) (tC (.int 69621))) (tVar 5)) (tC (.int 4294967231))) (tC (.int 8))) (tVar 2))))
    { nx:=fun _ H'=>Q .non H',rt:=Q } [some (.ref a),some (.ref t),some (.int many),some (.int (((c+1:Nat):Int) % (ns.length:Int))),some (.int z),none] H2:=by
   refine ⟨_,rfl,_,rfl,a,_,_,_,rfl,rfl,hS2.sq,hy,_,rfl,t,_,_,_,rfl,rfl,SqL.of hT2,zy (j:=0) rfl,_,_,rfl,rfl,.inl ⟨by decide,by decide⟩,_,_,rfl,rfl,_,_,rfl,rfl,(by show (0:Int) < 4294967291;decide),?_⟩
   have b0:0≤(y+104729 * ((c+1:Nat):Int)) % 4294967291:=Int.emod_nonneg _ (by decide)
   have b1:(y+104729 * ((c+1:Nat):Int)) % 4294967291 < 4294967291:=Int.emod_lt_of_pos _ (by decide)
   refine ⟨_,rfl,_,_,rfl,rfl,⟨by decide,by decide,?_⟩,_,_,rfl,rfl,(by show (0:Int) < 4294967279;decide),?_⟩
   ·show ((y+104729 * ((c+1:Nat):Int)) % 4294967291).natAbs < 2 ^ 64
    lia
   refine ⟨_,rfl,_,_,rfl,rfl,⟨by decide,by decide⟩,_,_,rfl,rfl,.inr ⟨by decide,by decide⟩,_,rfl,_,_,rfl,rfl,_,_,rfl,rfl,(by show (0:Int) < 4294967231;decide),_,_,rfl,rfl,⟨by decide,by decide⟩,_,rfl,_,_,rfl,rfl,by lia,?_⟩
   exact q _ cells H2 (hmod _).1 (hmod _).2 hcl hT2 k2
  refine ite2 (fun c1=>?_) (fun c1=>?_)
  ·refine ⟨_,rfl,_,_,rfl,rfl,_,rfl,?_⟩
   refine ite2 (fun c2=>?_) (fun c2=>rest)
   obtain ⟨j,cells',hj,hset,hl'⟩:=z44 (c:=c+1) (cells:=cells) a0 (by rw [hcl];exact a1) (z / many)
   refine ⟨_,rfl,_,rfl,_,_,rfl,rfl,⟨by lia,by lia⟩,?_⟩
   refine ⟨_,rfl,_,rfl,_,_,rfl,rfl,t,_,_,j,rfl,rfl,hT2,hj,?_⟩
   rw [hset]
   refine ⟨_,rfl,_,rfl,_,_,rfl,rfl,by lia,?_⟩
   exact q _ cells' _ (hmod _).1 (hmod _).2 (hl'.trans hcl) zb fun b o e hb=>by rw [zg hb];exact k2 b o e hb
  ·exact iteF rest
end
def FNd (P:Program) (w:World) (K:ko) (mg:Str→Option Value) (base:Heap) (k:Nat) (name:Str) (ps:List Str) (dvs:List V) (sp:Sp):Prop:=
 ∃f fd ds,mg name=some (.ref f)∧PySem.W.keepIn K (.ref f)=true∧Vals dvs ds∧Qu K fd ps ds∧FnOk P w K mg base CX0 k f fd ps sp
def z0I (K:ko) (mg:Str→Option Value) (name:Str) (st:Stmt):Prop:=
 ∃(f T:Addr) (oc kV doc pm cdv ct:Value) (od an:Option Addr) (osl:Array (Option Value)) (to:Obj) (n:Nat),mg name=some (.ref f)∧PySem.W.keepIn K (.ref f)=true∧
  K.lookup f=some ⟨oc,od,.func (PySem.W.fnOf name name (qB st) (zW st) (ze st) (.ref T) kV doc pm an cdv ct),osl⟩∧PySem.W.codeIn K cdv name=true∧K.lookup T=some to∧to.data=.seq #[Value.none] n
section
variable {X:Cx} {k:Nat} {name:Str} {ps:List Str} {dvs:List V} {sp:Sp} {p pos:Pos} {e:Expr} {es:List Expr} {t:TA}
theorem zQ (F:FNd X.prog X.w X.K X.mg X.base k name ps dvs sp) (hr:Room k X.A) (hg:Gl X name) (ha:PA X (e :: es) t) (hdb:autoParam ((name == ("__debug__":Str))=false) aR._auto_2)
  (he:autoParam (starEach (e :: es) X.env=(false,eval e X.env) :: starEach es X.env) aR._auto_1) (hpl:autoParam ((backTo pos (starEach es X.env)).any (·.1)=false) aR._auto_1):
  PE X (.Call (.Name name p) (e :: es) [] pos) (z2n sp dvs E0 t):=by
 obtain ⟨f,fd,ds,a,b,v,c,d⟩:=F
 exact z2T d hr hg a b c v z5N ha hdb he hpl
end
section
def z0h:Sp:=fun vs H Q _=>∃(r:Addr) (op:Str) (x:V) (ys:List V),vs=[.ref r,.str op,x]∧H r=some (.lst ys)∧ys.length≤100000∧
 ∀a,H a=none→Q .non (upd (upd H a (.tup [.str op,x,.int (10+(ys.length:Int) / 2)])) r (.lst (ys++[.ref a])))
theorem sc68:zn ["_law_rows","_law_op","_law_arg"] ["_law_rows","_law_op","_law_arg"] (ze (top 68)):=fsM
theorem z17 {n:Nat} (h:n≤100000):n < sizeLine:=Nat.lt_of_le_of_lt h (by decide)
theorem z7j (D:z0I K mg "_law_put" (top 68)) (G:Glo mg):FNd P w K mg base 1 "_law_put" ["_law_rows","_law_op","_law_arg"] [] z0h∧FNd P w K mg base 1 "_law_put" ["_law_rows","_law_op","_law_arg"] [.non] z0h:=by
 obtain ⟨f,T,oc,kV,doc,pm,cdv,ct,od,an,osl,to,n,m,kp,lk,hcd,lT,hT⟩:=D
 have ok:FnOk P w K mg base CX0 1 f (PySem.W.fnOf "_law_put" "_law_put" (qB (top 68)) (zW (top 68)) (ze (top 68)) (.ref T) kV doc pm an cdv ct) ["_law_rows","_law_op","_law_arg"] z0h:=by
  refine z7k lk hcd sc68 (fun vs H Q E h=>by obtain ⟨r,op,x,ys,rfl,_⟩:=h;rfl) (fun A outer s H vs Q E hr h=>?_)
  obtain ⟨r,op,x,ys,rfl,hr1,hl,q⟩:=h
  refine ⟨_,PSs.nox (zf (zj (jV (pv 0) (z6 (qY (z6 (pv 1) (z6 (pv 2) (z6 (zO ja zh (zO Qe (zw zx rfl G.len zS (z6 (pv 0) z7)) zh)) z7)))) z7)))),?_⟩
  refine ⟨_,rfl,.inl ⟨rfl,_,SqL.of hr1⟩,_,rfl,_,rfl,_,rfl,r,_,rfl,.inl (SqL.of hr1),_,_,rfl,rfl,⟨by decide,by decide⟩,_,_,rfl,rfl,by show 3≤sizeLine;decide,fun a ha=>?_⟩
  have nra:r≠a:=zc hr1 ha
  exact ⟨r,ys,.ref a,rfl,rfl,by rw [zg nra];exact hr1,z17 hl,q a ha⟩
 have b3:Qu K (PySem.W.fnOf "_law_put" "_law_put" (qB (top 68)) (zW (top 68)) (ze (top 68)) (.ref T) kV doc pm an cdv ct) ["_law_rows","_law_op","_law_arg"] []:=fun s us X hl=>by
  match us,hl with
  | [u1,u2,u3],_=>exact BindsTo.of_defaults (T:=T) (o:=to) (items:=#[Value.none]) rfl (X _ _ lT) hT rfl rfl
 have b2:Qu K (PySem.W.fnOf "_law_put" "_law_put" (qB (top 68)) (zW (top 68)) (ze (top 68)) (.ref T) kV doc pm an cdv ct) ["_law_rows","_law_op","_law_arg"] [.none]:=fun s us X hl=>by
  have hl':us.length=2:=by simpa using hl
  match us,hl' with
  | [u1,u2],_=>exact BindsTo.of_defaults (T:=T) (o:=to) (items:=#[Value.none]) rfl (X _ _ lT) hT rfl rfl
 exact ⟨⟨f,_,[],m,kp,.nil,b3,ok⟩,⟨f,_,[.none],m,kp,.cons rfl .nil,b2,ok⟩⟩
noncomputable def jX (k:Nat):List V:=(List.range k).map fun i:Nat=>V.int (i:Int)
theorem Qh (k:Nat):jX k++[.int (k:Int)]=jX (k+1):=by
 unfold jX
 rw [List.range_succ,kG]
 rfl
theorem ZA (k:Nat):(jX k).length=k:=by unfold jX;simp
def spMk:Sp:=fun vs H Q _=>∃(m:Addr) (k:Nat),vs=[.ref m]∧H m=some (.lst (jX k))∧k≤100000∧Q (.int (k:Int)) (upd H m (.lst (jX (k+1))))
theorem sc69:zn ["_law_marks"] ["_law_marks"] (ze (top 69)):=fsM
theorem z89 (D:zi K mg "_law_mark" (top 69)) (G:Glo mg):FN P w K mg base 1 "_law_mark" ["_law_marks"] spMk:=by
 refine FN.o D sc69 fun f cdv A outer s H vs Q E hr h=>?_
 obtain ⟨m,k,rfl,hm,hk,q⟩:=h
 refine ⟨_,z8 (zj (jV (pv 0) (z6 (zw zx rfl G.len zS (z6 (pv 0) z7)) z7)))
  (zf (zv (qa zK (pv 0) (JC ZF zh) (fun _ _=>rfl)))),?_⟩
 refine ⟨_,rfl,.inl ⟨rfl,_,SqL.of hm⟩,_,rfl,m,_,rfl,.inl (SqL.of hm),m,_,_,rfl,rfl,hm,by rw [ZA];exact z17 hk,?_⟩
 rw [ZA,Qh]
 refine ⟨_,rfl,1,rfl,m,_,_,.int (k:Int),rfl,rfl,SqL.of zb,?_,q⟩
 rw [←Qh]
 exact z1p _ _
def Jp (K:ko):Sp:=fun vs H Q _=>∃(a t p:Addr) (ns:List Int) (c:Nat) (cells:List Int) (xs:List V),vs=[.ref a,.ref t,.ref p]∧Scr K H a (ns.map V.int)∧ns.length≤1000∧cells.length=ns.length∧H t=some (.lst (qQ c cells))∧c≤100000∧H p=some (.lst xs)∧p≠t∧1≤xs.length∧xs.length≤1000∧
 ∀(v:V) (cells':List Int) H',v∈xs→cells'.length=ns.length→H' t=some (.lst (qQ (c+1) cells'))→Jk H H' t→Q v H'
theorem sc64:zn ["_law_script","_law_town_here","_law_some"] ["_law_script","_law_town_here","_law_some"] (ze (top 64)):=fsM
theorem z64 (D:zi K mg "_law_pick" (top 64)) (G:Glo mg) (FD:FN P w K mg base 1 "_law_draw" ["_law_script","_law_town_here","_law_many"] (z0Q K)):FN P w K mg base 2 "_law_pick" ["_law_script","_law_town_here","_law_some"] (Jp K):=by
 refine FN.o D sc64 fun f cdv A outer s H vs Q E hr h=>?_
 obtain ⟨a,t,p,ns,c,cells,xs,rfl,hS,hns,hcl,hT,hc,hp,hpt,hx1,hx2,q⟩:=h
 refine ⟨_,zf (zv (qa zK (pv 2) (zp FD hr rfl (z6 (pv 0) (z6 (pv 1) (z6 (zw zx rfl G.len zS (z6 (pv 2) z7)) z7)))) (fun _ _=>rfl))),?_⟩
 refine ⟨_,rfl,_,rfl,_,rfl,_,rfl,p,_,rfl,.inl (SqL.of hp),a,t,ns,c,cells,_,rfl,hS,hns,hcl,hT,hc,by lia,by lia,fun i cells' H' h0 h1 hl' hT' k'=>?_⟩
 obtain ⟨j,rfl⟩:=kU h0
 have hj:j < xs.length:=by lia
 exact ⟨p,_,_,xs[j],rfl,rfl,SqL.of (k' p _ hp hpt),zy (kH hj),q _ cells' H' (List.getElem_mem hj) hl' hT' k'⟩
def z0m (K:ko):Sp:=fun vs H Q _=>∃(a t:Addr) (ns:List Int) (c:Nat) (cells:List Int),vs=[.ref a,.ref t]∧Scr K H a (ns.map V.int)∧ns.length≤1000∧cells.length=ns.length∧H t=some (.lst (qQ c cells))∧c≤100000∧
 ∀(v:V) (cells':List Int) H',jw v=true→okV v=true→cells'.length=ns.length→H' t=some (.lst (qQ (c+1) cells'))→Jk H H' t→Q v H'
theorem sc67:zn ["_law_script","_law_town_here"] ["_law_script","_law_town_here"] (ze (top 67)):=fsM
theorem JW:∀v∈([.int 0,.int 1,.int 2,.int 3,.int (-4),.int 7,.int (10 ^ (9:Int).toNat),.bl true,.bl false,.non,.str "Oops",.str "Zero"]:List V),jw v=true∧okV v=true:=by trivial
theorem z4L (D:zi K mg "_law_const" (top 67)) (FP:FN P w K mg base 2 "_law_pick" ["_law_script","_law_town_here","_law_some"] (Jp K)):FN P w K mg base 3 "_law_const" ["_law_script","_law_town_here"] (z0m K):=by
 refine FN.o D sc67 fun f cdv A outer s H vs Q E hr h=>?_
 obtain ⟨a,t,ns,c,cells,rfl,hS,hns,hcl,hT,hc,q⟩:=h
 refine ⟨_,zf (zv (zp FP hr rfl (z6 (pv 0) (z6 (pv 1) (z6 (qe (z6 zh (z6 zh (z6 zh (z6 zh (z6 (JC ZF zh) (z6 zh (z6 (zO z2U zh zh) (z6 Qc (z6 Qc (z6 qU (z6 zq (z6 zq z7))))))))))))) z7))))),?_⟩
 refine ⟨_,rfl,_,rfl,4,rfl,_,_,rfl,rfl,⟨by decide,by decide,by decide⟩,by show 12≤sizeLine;decide,fun p hp=>?_⟩
 have s1:=zk hp (.lst [.int 0,.int 1,.int 2,.int 3,.int (-4),.int 7,.int (10 ^ (9:Int).toNat),.bl true,.bl false,.non,.str "Oops",.str "Zero"])
 refine ⟨a,t,p,ns,c,cells,_,rfl,hS.keep fun o u e=>s1 _ _ e,hns,hcl,s1 _ _ hT,hc,zb,(zc hT hp).symm,by show 1≤12;decide,by show 12≤1000;decide,fun v cells' H' hv hl' hT' k'=>?_⟩
 exact q v cells' H' (JW v hv).1 (JW v hv).2 hl' hT' fun b o e hb=>k' b o (s1 _ _ e) hb
end
structure Pl where
 a:Addr
 t:Addr
 r:Addr
 m:Addr
 ns:List Int
structure GS (K:ko) (H:Hp) (p:Pl) (c:Nat) (rs:List Row) (k:Nat):Prop where
 scr:Scr K H p.a (p.ns.map V.int)
 nsl:p.ns.length≤1000
 town:∃cells:List Int,cells.length=p.ns.length∧H p.t=some (.lst (qQ c cells))
 rows:∃as,H p.r=some (.lst (as.map V.ref))∧zP H as rs
 marks:H p.m=some (.lst (jX k))
 tr:p.t≠p.r
 tm:p.t≠p.m
 rm:p.r≠p.m
structure Step (K:ko) (H H':Hp) (p:Pl) (c:Nat) (rs:List Row) (k:Nat) (c':Nat) (new:List Row) (k' B:Nat):Prop where
 gs:GS K H' p c' (rs++new) k'
 c1:c≤c'
 c2:c'≤c+B
 n:new.length≤B
 k1:k≤k'
 k2:k'≤k+B
 keep:z8f H H' p.t p.r p.m
section
variable {K:ko} {H H' H1 H2:Hp} {p:Pl} {c c1 c2 k k1 k2 B B1 B2:Nat} {rs n1 n2:List Row}
theorem Step.trans (s:Step K H H1 p c rs k c1 n1 k1 B1) (u:Step K H1 H2 p c1 (rs++n1) k1 c2 n2 k2 B2):Step K H H2 p c rs k c2 (n1++n2) k2 (B1+B2) where
 gs:=by have:=u.gs;rw [kR] at this;exact this
 c1:=kn s.c1 u.c1
 c2:=by have:=s.c2;have:=u.c2;lia
 n:=by have:=s.n;have:=u.n;rw [ki];lia
 k1:=kn s.k1 u.k1
 k2:=by have:=s.k2;have:=u.k2;lia
 keep:=fun b o e h1 h2 h3=>u.keep b o (s.keep b o e h1 h2 h3) h1 h2 h3
theorem Step.more (s:Step K H H1 p c rs k c1 n1 k1 B1) (h:B1≤B2):Step K H H1 p c rs k c1 n1 k1 B2:=
 ⟨s.gs,s.c1,by have:=s.c2;lia,by have:=s.n;lia,s.k1,by have:=s.k2;lia,s.keep⟩
theorem GS.same (g:GS K H p c rs k) (s:Same H H'):GS K H' p c rs k:=by
 obtain ⟨cells,h1,h2⟩:=g.town
 obtain ⟨as,h3,h4⟩:=g.rows
 exact ⟨g.scr.keep fun _ _ e=>s _ _ e,g.nsl,⟨cells,h1,s _ _ h2⟩,⟨as,s _ _ h3,h4.same s⟩,s _ _ g.marks,g.tr,g.tm,g.rm⟩
theorem GS.draw (g:GS K H p c rs k) {cells':List Int} (hl:cells'.length=p.ns.length) (hT:H' p.t=some (.lst (qQ (c+1) cells'))) (kp:Jk H H' p.t):Step K H H' p c rs k (c+1) [] k 1:=by
 obtain ⟨cells,h1,h2⟩:=g.town
 obtain ⟨as,h3,h4⟩:=g.rows
 refine ⟨?_,by lia,by lia,by simp,kc _,by lia,fun b o e h1 _ _=>kp b o e h1⟩
 rw [kQ]
 exact ⟨g.scr.keep1 kp h2,g.nsl,⟨cells',hl,hT⟩,⟨as,kp _ _ h3 g.tr.symm,h4.keep fun b xs e=>kp b _ e (jC e h2 nofun)⟩,kp _ _ g.marks g.tm.symm,g.tr,g.tm,g.rm⟩
theorem GS.put (g:GS K H p c rs k) {x:Addr} (hx:H x=none) {op:Str} {v:V} {as:List Addr} (h3:H p.r=some (.lst (as.map V.ref))) (h4:zP H as rs) {l:Int}:
  Step K H (upd (upd H x (.tup [.str op,v,.int l])) p.r (.lst (as.map V.ref++[.ref x]))) p c rs k c [⟨op,v,l⟩] k 1:=by
 obtain ⟨cells,h1,h2⟩:=g.town
 have nr:∀b o,H b=some o→b≠x:=fun b o e=>zc e hx
 have kp:∀b o,H b=some o→b≠p.r→(upd (upd H x (.tup [.str op,v,.int l])) p.r (.lst (as.map V.ref++[.ref x]))) b=some o:=fun b o e hb=>by rw [zg hb,zg (nr b o e)];exact e
 have xr:x≠p.r:=(nr _ _ h3).symm
 refine ⟨⟨g.scr.keep fun o u e=>kp _ _ e (jC e h3 nofun),g.nsl,⟨cells,h1,kp _ _ h2 g.tr⟩,⟨as++[x],by rw [kG];exact zb,?_⟩,kp _ _ g.marks g.rm.symm,g.tr,g.tm,g.rm⟩,kc _,by lia,by simp,kc _,by lia,fun b o e _ h2 _=>kp b o e h2⟩
 refine zP.append (h4.keep fun b xs e=>kp b _ e (jC e h3 nofun)) (.cons ?_ .nil)
 rw [zg xr,zb]
 rfl
theorem GS.mk' (g:GS K H p c rs k):Step K H (upd H p.m (.lst (jX (k+1)))) p c rs k c [] (k+1) 1:=by
 obtain ⟨cells,h1,h2⟩:=g.town
 obtain ⟨as,h3,h4⟩:=g.rows
 have kp:∀b o,H b=some o→b≠p.m→(upd H p.m (.lst (jX (k+1)))) b=some o:=fun b o e hb=>by rw [zg hb];exact e
 refine ⟨?_,kc _,by lia,by simp,by lia,kc _,fun b o e _ _ h3=>kp b o e h3⟩
 rw [kQ]
 exact ⟨g.scr.keep fun o u e=>kp _ _ e (jC e g.marks nofun),g.nsl,⟨cells,h1,kp _ _ h2 g.tm⟩,⟨as,kp _ _ h3 g.rm,h4.keep fun b xs e=>kp b _ e (jC e g.marks nofun)⟩,zb,g.tr,g.tm,g.rm⟩
theorem jo (g:GS K H p c rs k) (hc:c≤100000) {many:Int} (h1:1≤many) (h2:many≤1000) {Q:VK} {E:XK} (h:∀i H',0≤i→i < many→Step K H H' p c rs k (c+1) [] k 1→Q (.int i) H'):z0Q K [.ref p.a,.ref p.t,.int many] H Q E:=by
 obtain ⟨cells,e1,e2⟩:=g.town
 exact ⟨p.a,p.t,p.ns,c,cells,many,rfl,g.scr,g.nsl,e1,e2,hc,h1,h2,fun i cells' H' a b l t kp=>h i H' a b (g.draw l t kp)⟩
theorem jm (g:GS K H p c rs k) (hc:c≤100000) {q:Addr} (hq:H q=none) {xs:List V} (h1:1≤xs.length) (h2:xs.length≤1000) {Q:VK} {E:XK} (h:∀v H',v∈xs→Step K H H' p c rs k (c+1) [] k 1→Q v H'):
  Jp K [.ref p.a,.ref p.t,.ref q] (upd H q (.lst xs)) Q E:=by
 have s1:=zk hq (.lst xs)
 have g1:=g.same s1
 obtain ⟨cells,e1,e2⟩:=g1.town
 obtain ⟨cells0,_,e20⟩:=g.town
 exact ⟨p.a,p.t,q,p.ns,c,cells,xs,rfl,g1.scr,g1.nsl,e1,e2,hc,zb,(zc e20 hq).symm,h1,h2,fun v cells' H' hv l t kp=>h v H' hv (g.draw l t fun b o e hb=>kp b o (s1 _ _ e) hb)⟩
theorem z45 (g:GS K H p c rs k) (hc:c≤100000) {Q:VK} {E:XK} (h:∀v H',jw v=true→okV v=true→Step K H H' p c rs k (c+1) [] k 1→Q v H'):z0m K [.ref p.a,.ref p.t] H Q E:=by
 obtain ⟨cells,e1,e2⟩:=g.town
 exact ⟨p.a,p.t,p.ns,c,cells,rfl,g.scr,g.nsl,e1,e2,hc,fun v cells' H' hv ho l t kp=>h v H' hv ho (g.draw l t kp)⟩
theorem zN (g:GS K H p c rs k) (hl:rs.length≤100000) {op:Str} {v:V} {Q:VK} {E:XK} (h:∀H',Step K H H' p c rs k c [⟨op,v,10+(rs.length:Int) / 2⟩] k 1→Q .non H'):z0h [.ref p.r,.str op,v] H Q E:=by
 obtain ⟨as,h3,h4⟩:=g.rows
 have e:(as.map V.ref).length=rs.length:=by rw [kh];exact h4.len
 refine ⟨p.r,op,v,_,rfl,h3,by lia,fun x hx=>?_⟩
 rw [e]
 exact h _ (g.put hx h3 h4)
theorem QT (g:GS K H p c rs k) (hk:k≤100000) {Q:VK} {E:XK} (h:∀H',Step K H H' p c rs k c [] (k+1) 1→Q (.int (k:Int)) H'):spMk [.ref p.m] H Q E:=⟨p.m,k,rfl,g.marks,hk,h _ g.mk'⟩
end
def RowG (r:Row):Prop:=∃s,zZ r.op=some s∧0≤r.line∧r.line≤9999∧(r.op="push"→okV r.arg=true)∧((s="mark"∧∃m:Nat,r.arg=.int (m:Int))∨(s≠"mark"∧j6 s r.arg=true))
noncomputable def J9 (m:Nat) (r:Row):Bool:=decide (r.op="label")&&decide (r.arg=.int (m:Int))
noncomputable def J8 (m:Nat) (r:Row):Bool:=decide (zZ r.op=some ("mark":Str))&&decide (r.op≠"label")&&decide (r.arg=.int (m:Int))
noncomputable def lab (m:Nat) (l:List Row):Nat:=l.countP (J9 m)
noncomputable def use (m:Nat) (l:List Row):Nat:=l.countP (J8 m)
theorem zJ (m:Nat) (a b:List Row):lab m (a++b)=lab m a+lab m b:=List.countP_append
theorem jZ (m:Nat) (a b:List Row):use m (a++b)=use m a+use m b:=List.countP_append
structure Good (k k':Nat) (l:List Row):Prop where
 row:∀r∈l,RowG r
 lab1:∀m,lab m l≤1
 labI:∀m,lab m l≠0→k≤m∧m < k'
 useI:∀m,use m l≠0→lab m l≠0
 labA:∀m,k≤m→m < k'→lab m l≠0
theorem Good.nil (k:Nat):Good k k []:=⟨(fun _ h=>by cases h),fun _=>Nat.zero_le _,fun _ h=>absurd rfl h,fun _ h=>absurd rfl h,fun _ _ _=>by lia⟩
theorem Good.app {k k1 k2:Nat} {a b:List Row} (x:Good k k1 a) (y:Good k1 k2 b) (h1:k≤k1) (h2:k1≤k2):Good k k2 (a++b):=by
 refine ⟨fun r hr=>(kO.mp hr).elim (x.row r) (y.row r),fun m=>?_,fun m h=>?_,fun m h=>?_,fun m ha hb=>?_⟩
 ·have:=x.lab1 m;have:=y.lab1 m;have:=x.labI m;have:=y.labI m
  rw [zJ];lia
 ·have:=x.labI m;have:=y.labI m
  rw [zJ] at h;lia
 ·have:=x.useI m;have:=y.useI m
  rw [jZ] at h
  rw [zJ];lia
 ·have:=x.labA m;have:=y.labA m
  rw [zJ];lia
def Bare (op:Str) (v:V):Prop:=∃s,zZ op=some s∧s≠"mark"∧j6 s v=true∧(op="push"→okV v=true)
theorem Bare.noLab {op:Str} {v:V} (h:Bare op v) (m:Nat) (l:Int):lab m [⟨op,v,l⟩]=0:=by
 obtain ⟨s,hs,hm,_⟩:=h
 have:op≠"label":=fun z=>hm (by rw [z,jP] at hs;exact (ku hs).symm)
 unfold lab
 rw [List.countP_singleton]
 have:J9 m ⟨op,v,l⟩=false:=by unfold J9;simp [this]
 rw [this]
 rfl
theorem Bare.noUse {op:Str} {v:V} (h:Bare op v) (m:Nat) (l:Int):use m [⟨op,v,l⟩]=0:=by
 obtain ⟨s,hs,hm,_⟩:=h
 unfold use
 rw [List.countP_singleton]
 have:J8 m ⟨op,v,l⟩=false:=by
  unfold J8
  rw [hs]
  have:¬(some s=some ("mark":Str)):=fun z=>hm (ku z)
  simp [this]
 rw [this]
 rfl
theorem Bare.rowG {op:Str} {v:V} (h:Bare op v) {l:Int} (h0:0≤l) (h1:l≤9999):RowG ⟨op,v,l⟩:=by
 obtain ⟨s,hs,hm,hf,hp⟩:=h
 exact ⟨s,hs,h0,h1,hp,.inr ⟨hm,hf⟩⟩
theorem Bare.good {op:Str} {v:V} (h:Bare op v) {l:Int} (h0:0≤l) (h1:l≤9999) (k:Nat):Good k k [⟨op,v,l⟩]:=
 ⟨fun r hr=>by rw [kl.mp hr];exact h.rowG h0 h1,fun m=>by rw [h.noLab];exact Nat.zero_le _,fun m z=>absurd (h.noLab m l) z,fun m z=>absurd (h.noUse m l) z,fun m _ _=>by lia⟩
def Uses (op:Str):Prop:=zZ op=some ("mark":Str)∧op≠"label"
theorem Uses.noLab {op:Str} (h:Uses op) (m:Nat) (v:V) (l:Int):lab m [⟨op,v,l⟩]=0:=by
 unfold lab
 rw [List.countP_singleton]
 have:J9 m ⟨op,v,l⟩=false:=by unfold J9;simp [h.2]
 rw [this]
 rfl
noncomputable def ind (m j:Nat):Nat:=if m=j then 1 else 0
theorem zT (m j:Nat):(m=j∧ind m j=1)∨(m≠j∧ind m j=0):=by
 unfold ind
 by_cases e:m=j <;> simp [e]
theorem Uses.use {op:Str} (h:Uses op) (m j:Nat) (l:Int):use m [⟨op,.int (j:Int),l⟩]=ind m j:=by
 unfold My.use ind
 rw [List.countP_singleton]
 have:J8 m ⟨op,.int (j:Int),l⟩=decide (m=j):=by
  unfold J8
  rw [h.1]
  have:(V.int (j:Int)=V.int (m:Int))↔m=j:=⟨fun z=>by injection z with z;lia,fun z=>by rw [z]⟩
  simp [h.2,this]
 rw [this]
 by_cases e:m=j <;> simp [e]
theorem Uses.rowG {op:Str} (h:Uses op) {j:Nat} {l:Int} (h0:0≤l) (h1:l≤9999):RowG ⟨op,.int (j:Int),l⟩:=⟨"mark",h.1,h0,h1,fun z=>absurd (show zZ "push"=some ("mark":Str) from (show op="push" from z)▸h.1) (by trivial),.inl ⟨rfl,j,rfl⟩⟩
theorem zV (m j:Nat) (l:Int):lab m [⟨"label",.int (j:Int),l⟩]=ind m j:=by
 unfold lab ind
 rw [List.countP_singleton]
 have:J9 m ⟨"label",.int (j:Int),l⟩=decide (m=j):=by
  unfold J9
  have:(V.int (j:Int)=V.int (m:Int))↔m=j:=⟨fun z=>by injection z with z;lia,fun z=>by rw [z]⟩
  simp [this]
 rw [this]
 by_cases e:m=j <;> simp [e]
theorem Zw (m:Nat) (v:V) (l:Int):use m [⟨"label",v,l⟩]=0:=by
 unfold use
 rw [List.countP_singleton]
 have:J8 m ⟨"label",v,l⟩=false:=by unfold J8;simp
 rw [this]
 rfl
theorem qL {j:Nat} {l:Int} (h0:0≤l) (h1:l≤9999):RowG ⟨"label",.int (j:Int),l⟩:=⟨"mark",jP,h0,h1,fun z=>absurd z (show ("label":Str)≠"push" by trivial),.inl ⟨rfl,j,rfl⟩⟩
theorem Ty.cast {δ δ':Int} {su:Bool} {k k':Nat} {l:List Row} (x:Ty δ su k k' l) (h:δ=δ'):Ty δ' su k k' l:=h▸x
noncomputable def bV:Nat→Nat
 | 0=>3
 | d+1=>2 * bV d+25
theorem QM:∀d,3≤bV d
 | 0=>kc _
 | d+1=>by have:=QM d;show 3≤2 * bV d+25;lia
theorem zU (m:Nat):lab m []=0:=rfl
theorem Zv (m:Nat):use m []=0:=rfl
def AllG (l:List Row):Prop:=∀r∈l,RowG r
theorem AllG.nil:AllG []:=fun _ h=>by cases h
theorem AllG.app {a b:List Row} (x:AllG a) (y:AllG b):AllG (a++b):=fun r hr=>(kO.mp hr).elim (x r) (y r)
theorem AllG.one {r:Row} (h:RowG r):AllG [r]:=fun x hx=>by rw [kl.mp hx];exact h
theorem ZM:Uses "try":=⟨by trivial,by trivial⟩
theorem qd:Uses "jump":=⟨by trivial,by trivial⟩
theorem z0e:Uses "iffalse":=⟨by trivial,by trivial⟩
theorem z7B:Uses "iftrue":=⟨by trivial,by trivial⟩
theorem z7z:Uses "ortrue":=⟨by trivial,by trivial⟩
theorem z7A:Uses "orfalse":=⟨by trivial,by trivial⟩
theorem Zt {op:Str} (h:zZ op=some ("none":Str)):Bare op .non:=⟨"none",h,by trivial,by trivial,fun _=>rfl⟩
theorem ZP:Bare "endtry" .non:=Zt (by trivial)
theorem z3N:Bare "drop" .non:=Zt (by trivial)
theorem z3L:Bare "tell" .non:=Zt (by trivial)
theorem z7v:Bare "same" .non:=Zt (by trivial)
theorem z3M:Bare "raise" .non:=Zt (by trivial)
theorem z1o:Bare "return" .non:=Zt (by trivial)
theorem z7w {v:V} (h:jw v=true) (ho:okV v=true):Bare "push" v:=⟨"value",by trivial,by trivial,by unfold j6;rw [kr rfl];exact h,fun _=>ho⟩
theorem z5q {v:V} (h:v∈([.str "a",.str "b",.str "c"]:List V)):Bare "load" v:=⟨"name",by trivial,by trivial,by revert v;decide+kernel,fun z=>absurd z (by trivial)⟩
theorem z6q {v:V} (h:v∈([.str "a",.str "b",.str "c"]:List V)):Bare "store" v:=⟨"name",by trivial,by trivial,by revert v;decide+kernel,fun z=>absurd z (by trivial)⟩
theorem z6r {v:V} (h:v∈([.str "b",.str "c"]:List V)):Bare "clear" v:=⟨"name",by trivial,by trivial,by revert v;decide+kernel,fun z=>absurd z (by trivial)⟩
theorem Z4 {s:Str} {i lo hi:Int} (h:∀x,j6 s x=qJ x lo hi) (h0:lo≤i) (h1:i≤hi):j6 s (.int i)=true:=by
 rw [h]
 show (decide (lo≤i)&&decide (i≤hi))=true
 rw [kg h0,kg h1]
 rfl
theorem z7u {i:Int} (h0:2≤i) (h1:i≤9):Bare "swap" (.int i):=⟨"swapped",by trivial,by trivial,Z4 (fun x=>by
 unfold j6;rw [kq (by trivial),kq (by trivial),kq (by trivial),kr rfl];rfl) h0 h1,fun z=>absurd z (by trivial)⟩
theorem z7x {i:Int} (h0:1≤i) (h1:i≤9):Bare "copy" (.int i):=⟨"copied",by trivial,by trivial,Z4 (fun x=>by
 unfold j6;rw [kq (by trivial),kq (by trivial),kr rfl];rfl) h0 h1,fun z=>absurd z (by trivial)⟩
section
variable {K:ko} {H H' H1 H2:Hp} {p:Pl} {c c1 c2 k k1 k2 B B1 B2:Nat} {rs n1 n2:List Row}
theorem Step.tick (s:Step K H H1 p c rs k c1 n1 k1 B1) (u:Step K H1 H2 p c1 (rs++n1) k1 c2 [] k2 B2):Step K H H2 p c rs k c2 n1 k2 (B1+B2):=by
 have:=s.trans u
 rw [kQ] at this
 exact this
theorem Step.len (s:Step K H H1 p c rs k c1 n1 k1 B1):(rs++n1).length≤rs.length+B1:=by
 have:=s.n
 rw [ki]
 lia
end
def qm (K:ko) (C:Int→Nat→Prop) (δ:Int) (su:Bool):Sp:=fun vs H Q _=>∃(p:Pl) (c:Nat) (rs:List Row) (k:Nat) (e:Int) (B:Nat),vs=[.ref p.a,.ref p.t,.ref p.r,.ref p.m,.int e]∧C e B∧GS K H p c rs k∧c+B≤15000∧rs.length+B≤15000∧k+B≤15000∧
 ∀c' new k' H',Step K H H' p c rs k c' new k' B→Good k k' new→Ty δ su k k' new→Q .non H'
theorem qW {K:ko} {C:Int→Nat→Prop} {δ:Int} {su:Bool} (vs:List V) (H:Hp) (Q:VK) (E:XK) (h:qm K C δ su vs H Q E):vs.length=5:=by
 obtain ⟨p,c,rs,k,e,B,rfl,_⟩:=h
 rfl
def CV (n:Nat) (e:Int) (B:Nat):Prop:=∃d:Nat,e=(d:Int)∧d < n∧B=bV d
def CTV (n:Nat) (e:Int) (B:Nat):Prop:=∃d:Nat,e=(d:Int)+1∧d < n∧B=bV d+7
def CMV (n:Nat) (_:Int) (B:Nat):Prop:=0 < n∧B=30
noncomputable abbrev gps:List Str:=["_law_script","_law_town_here","_law_rows","_law_marks","_law_deep"]
theorem zE {n:Nat} (h:n≤15000):(0:Int)≤10+(n:Int) / 2∧10+(n:Int) / 2≤9999:=by lia
section
structure jF (P:Program) (w:World) (K:ko) (mg:Str→Option Value) (base:Heap):Prop where
 draw:FN P w K mg base 1 "_law_draw" ["_law_script","_law_town_here","_law_many"] (z0Q K)
 pick:FN P w K mg base 2 "_law_pick" ["_law_script","_law_town_here","_law_some"] (Jp K)
 const:FN P w K mg base 3 "_law_const" ["_law_script","_law_town_here"] (z0m K)
 put3:FNd P w K mg base 1 "_law_put" ["_law_rows","_law_op","_law_arg"] [] z0h
 put2:FNd P w K mg base 1 "_law_put" ["_law_rows","_law_op","_law_arg"] [.non] z0h
 mark:FN P w K mg base 1 "_law_mark" ["_law_marks"] spMk
theorem sc71:zn ["_law_script","_law_town_here","_law_rows","_law_marks","_law_deep","_law_mark_here","_law_end"] gps (ze (top 71)):=fsM
theorem z85 {n:Nat} (D:zi K mg "_law_tried_value" (top 71)) (S:jF P w K mg base) (FV:FN P w K mg base (3+2 * n) "_law_value" gps (qm K (CV n) 1 true)):FN P w K mg base (4+2 * n) "_law_tried_value" gps (qm K (CTV n) 1 true):=by
 have:=FN.of (k:=3+2 * n) (sp:=qm K (CTV n) 1 true) (P:=P) (w:=w) (base:=base) D sc71 (fun _ _ _ _ _ _=>zU5 fun _ _ _ _ _=>rfl) qW (fun f cdv A outer s H vs Q E hr h=>?_)
 ·exact this.mono (by lia)
 obtain ⟨p,c,rs,k,e,B,rfl,⟨d,he,hd,hB⟩,g,bc,br,bk,q⟩:=h
 have hr1:=hr.mono (show 1≤3+2 * n by lia)
 refine ⟨_,z8 (zC (i:=5) sc71.nd rfl (Or.inl rfl) (zp S.mark hr1 rfl (z6 (pv 3) z7)))
  (z8 (zC (i:=6) sc71.nd rfl (Or.inl rfl) (zp S.mark hr1 rfl (z6 (pv 3) z7)))
  (z8 (zj (zQ S.put3 hr1 rfl (z6 (pv 2) (z6 zq (z6 (pv 5) z7)))))
  (z8 (zj (zp FV hr rfl (z6 (pv 0) (z6 (pv 1) (z6 (pv 2) (z6 (pv 3) (z6 (zO j3 (pv 4) zh) z7)))))))
  (z8 (zj (zQ S.put2 hr1 rfl (z6 (pv 2) (z6 zq z7))))
  (z8 (zj (zQ S.put3 hr1 rfl (z6 (pv 2) (z6 zq (z6 (pv 6) z7)))))
  (z8 (zj (zQ S.put3 hr1 rfl (z6 (pv 2) (z6 zq (z6 (pv 5) z7)))))
  (zf (zj (zQ S.put3 hr1 rfl (z6 (pv 2) (z6 zq (z6 (pv 6) z7)))))))))))),?_⟩
 refine ⟨_,rfl,QT g (by lia) fun H1 s1=>?_⟩
 refine ⟨_,rfl,QT s1.gs (by lia) fun H2 s2=>?_⟩
 have t2:=s1.trans s2
 refine ⟨_,rfl,_,rfl,zN t2.gs (by have:=t2.n;rw [ki];lia) fun H3 s3=>?_⟩
 have t3:=t2.trans s3
 refine ⟨_,rfl,_,rfl,_,rfl,_,rfl,_,rfl,_,_,rfl,rfl,p,_,_,_,_,bV d,rfl,⟨d,(by show e - 1=_;lia),hd,rfl⟩,t3.gs,(by have:=t3.c2;lia),(by have:=t3.n;rw [ki];lia),(by have:=t3.k2;lia),fun c4 n4 k4 H4 s4 g4 y4=>?_⟩
 have t4:=t3.trans s4
 refine ⟨_,rfl,zN t4.gs (by have:=t4.n;rw [ki];lia) fun H5 s5=>?_⟩
 have t5:=t4.trans s5
 refine ⟨_,rfl,_,rfl,zN t5.gs (by have:=t5.n;rw [ki];lia) fun H6 s6=>?_⟩
 have t6:=t5.trans s6
 refine ⟨_,rfl,_,rfl,zN t6.gs (by have:=t6.n;rw [ki];lia) fun H7 s7=>?_⟩
 have t7:=t6.trans s7
 refine ⟨_,rfl,_,rfl,zN t7.gs (by have:=t7.n;rw [ki];lia) fun H8 s8=>?_⟩
 have t8:=t7.trans s8
 have L2:=zE (n:=(rs++([]++[])).length) (by simp;lia)
 have L4:=zE (kn t4.len (by lia))
 have L5:=zE (kn t5.len (by lia))
 have L6:=zE (kn t6.len (by lia))
 have L7:=zE (kn t7.len (by lia))
 refine q _ _ _ _ (t8.more (by lia)) ⟨(((((((AllG.nil.app AllG.nil).app (AllG.one (ZM.rowG L2.1 L2.2))).app g4.row).app (AllG.one (ZP.rowG L4.1 L4.2))).app (AllG.one (qd.rowG L5.1 L5.2))).app (AllG.one (qL L6.1 L6.2))).app (AllG.one (qL L7.1 L7.2))),fun m=>?_,fun m h=>?_,fun m h=>?_,fun m ha hb=>?_⟩ (Ty.triedv y4 s4.k1 _ _ _ _ _)
 ·simp only [zJ,zU,zV,ZM.noLab,ZP.noLab,qd.noLab]
  have:=g4.lab1 m;have:=g4.labI m;have:=zT m k;have:=zT m (k+1)
  lia
 ·simp only [zJ,zU,zV,ZM.noLab,ZP.noLab,qd.noLab] at h
  have:=g4.labI m;have:=zT m k;have:=zT m (k+1);have:=s4.k1
  lia
 ·simp only [jZ,Zv,Zw,ZM.use,ZP.noUse,qd.use] at h
  simp only [zJ,zU,zV,ZM.noLab,ZP.noLab,qd.noLab]
  have:=g4.useI m
  lia
 ·simp only [zJ,zU,zV,ZM.noLab,ZP.noLab,qd.noLab]
  have:=g4.labA m;have:=zT m k;have:=zT m (k+1)
  lia
end
set_option maxHeartbeats 8000000
section
variable {k k1:Nat} {n1:List Row}
theorem Good.put (g:Good k k1 n1) (hk:k≤k1) {op:Str} {v:V} (h:Bare op v) {l:Int} (h0:0≤l) (h1:l≤9999):Good k k1 (n1++[⟨op,v,l⟩]):=g.app (h.good h0 h1 k1) hk (kc _)
end
section
theorem sc72:zn ["_law_script","_law_town_here","_law_rows","_law_marks","_law_deep","_law_many","_law_k"] gps (ze (top 72)):=fsM
theorem z1A {v:V} (h:v∈([.str "drop",.str "tell",.str "same"]:List V)):∃op,v=.str op∧Bare op .non∧(Z6 op 1 0∨Z6 op 2 1):=by
 rcases ky.mp h with e | h
 ·exact ⟨_,e,z3N,.inl (Z2 _ (by simp))⟩
 ·rcases ky.mp h with e | h
  ·exact ⟨_,e,z3L,.inl (Z2 _ (by simp))⟩
  ·exact ⟨_,kl.mp h,z7v,.inr (z5c _ (by simp))⟩
theorem z88 {n:Nat} (D:zi K mg "_law_moved_value" (top 72)) (G:Glo mg) (S:jF P w K mg base) (FV:FN P w K mg base (3+2 * n) "_law_value" gps (qm K (CV n) 1 true)):FN P w K mg base (4+2 * n) "_law_moved_value" gps (qm K (CMV n) 1 true):=by
 have:=FN.of (k:=3+2 * n) (sp:=qm K (CMV n) 1 true) (P:=P) (w:=w) (base:=base) D sc72 (fun _ _ _ _ _ _=>zU5 fun _ _ _ _ _=>rfl) qW (fun f cdv A outer s H vs Q E hr h=>?_)
 ·exact this.mono (by lia)
 obtain ⟨p,c,rs,k,e,B,rfl,⟨hn,hB⟩,g,bc,br,bk,q⟩:=h
 have hr1:=hr.mono (show 1≤3+2 * n by lia)
 have hr2:=hr.mono (show 2≤3+2 * n by lia)
 refine ⟨_,z8 (zC (i:=5) sc72.nd rfl (Or.inl rfl) (zO ja zh (zp S.draw hr1 rfl (z6 (pv 0) (z6 (pv 1) (z6 zh z7))))))
  (z8 (jf PassesOwn.never rfl (qM rfl G.range (z6 (pv 5) z7)) (zu (i:=6) sc72.nd rfl (Or.inl rfl)) (zf (zj (zp FV hr rfl (z6 (pv 0) (z6 (pv 1) (z6 (pv 2) (z6 (pv 3) (z6 zh z7)))))))))
  (z8 (jf PassesOwn.never rfl (qM rfl G.range (z6 (zp S.draw hr1 rfl (z6 (pv 0) (z6 (pv 1) (z6 zh z7)))) z7)) (zu (i:=6) sc72.nd rfl (Or.inl rfl))
   (zf (zj (zQ S.put3 hr1 rfl (z6 (pv 2) (z6 zq (z6 (zO ja zh (zp S.draw hr1 rfl (z6 (pv 0) (z6 (pv 1) (z6 (zO j3 (pv 5) zh) z7))))) z7)))))))
  (z8 (qg (zr jA (zp S.draw hr1 rfl (z6 (pv 0) (z6 (pv 1) (z6 zh z7)))) zh (zB _))
   (z8 (zj (zQ S.put3 hr1 rfl (z6 (pv 2) (z6 zq (z6 (zO ja zh (zp S.draw hr1 rfl (z6 (pv 0) (z6 (pv 1) (z6 (pv 5) z7))))) z7)))))
    (zf (zj (zQ S.put2 hr1 rfl (z6 (pv 2) (z6 zq z7)))))) zH)
  (zf (jf PassesOwn.never rfl (qM rfl G.range (z6 (zO j3 (pv 5) zh) z7)) (zu (i:=6) sc72.nd rfl (Or.inl rfl))
   (zf (zj (zQ S.put2 hr1 rfl (z6 (pv 2) (z6 (zp S.pick hr2 rfl (z6 (pv 0) (z6 (pv 1) (z6 (qe (z6 zq (z6 zq (z6 zq z7)))) z7)))) z7)))))))))),?_⟩
 refine ⟨_,rfl,_,rfl,jo g (by lia) (by decide) (by decide) fun i0 H1 i00 i01 s1=>?_⟩
 refine ⟨_,_,rfl,rfl,?_⟩
 have hm0:2≤2+i0∧2+i0≤4:=⟨by lia,by lia⟩
 show tSeq _ _ _ [some (.ref p.a),some (.ref p.t),some (.ref p.r),some (.ref p.m),some (.int e),some (.int (2+i0)),none] H1
 generalize (2+i0:Int)=many at *
 refine ⟨_,rfl,many,rfl,by lia,by lia,jj (lo:=0) (n:=many.toNat) (fun i σ H2=>∃v c' new k',σ=[some (.ref p.a),some (.ref p.t),some (.ref p.r),some (.ref p.m),some (.int e),some (.int many),v]∧Step K H H2 p c rs k c' new k' (1+3 * i)∧Good k k' new∧Ty (i:Int) true k k' new)
  ⟨none,_,_,_,rfl,s1,Good.nil k,Ty.nil k⟩ ?_ ?_⟩
 ·rintro i σ H2 hi ⟨v,c',new,k',rfl,st,gd,ty⟩
  have l:=st.len
  refine ⟨_,rfl,_,rfl,_,rfl,_,rfl,p,_,_,_,_,3,rfl,⟨0,rfl,hn,rfl⟩,st.gs,(by have:=st.c2;lia),(by lia),(by have:=st.k2;lia),fun c4 n4 k4 H4 s4 g4 y4=>?_⟩
  exact ⟨_,c4,new++n4,k4,rfl,(st.trans s4).more (by lia),gd.app g4 st.k1 s4.k1,(ty.app y4 st.k1 s4.k1 (by lia)).cast (by lia)⟩
 rintro σ H2 ⟨v,c2,n2,k2,rfl,t2,g2,y2⟩
 have y2:=y2.cast (show ((many.toNat:Nat):Int)=many by lia)
 have t2:=t2.more (show _≤13 by lia)
 have l2:=t2.len
 refine ⟨_,rfl,_,rfl,jo t2.gs (by have:=t2.c2;lia) (by decide) (by decide) fun j0 H3 j00 j01 s3=>?_⟩
 have t3:=t2.tick s3
 refine ⟨j0,rfl,by lia,by lia,jj (lo:=0) (n:=j0.toNat) (fun i σ H2=>∃v c' new k',σ=[some (.ref p.a),some (.ref p.t),some (.ref p.r),some (.ref p.m),some (.int e),some (.int many),v]∧Step K H H2 p c rs k c' new k' (14+2 * i)∧Good k k' new∧Ty many true k k' new)
  ⟨v,_,_,_,rfl,t3,g2,y2⟩ ?_ ?_⟩
 ·rintro i σ H2 hi ⟨v,c',new,k',rfl,st,gd,ty⟩
  have l:=st.len
  refine ⟨_,rfl,_,rfl,_,rfl,_,rfl,_,_,rfl,rfl,jo st.gs (by have:=st.c2;lia) (by show 1≤many - 1;lia) (by show many - 1≤1000;lia) fun x H4 x0 x1 s4=>?_⟩
  have x1:x < many - 1:=x1
  have t4:=st.tick s4
  have l4:=t4.len
  refine ⟨_,_,rfl,rfl,zN t4.gs (by lia) fun H5 s5=>?_⟩
  have L:=zE (show (rs++new).length≤15000 by lia)
  exact ⟨_,_,_,_,rfl,(t4.trans s5).more (by lia),gd.put st.k1 (z7u (by lia) (by lia)) L.1 L.2,(ty.deep z6h (n:=2+x) (by lia) _).cast (by lia)⟩
 rintro σ H4 ⟨v4,c4,n4,k4,rfl,t4,g4,y4⟩
 have t4:=t4.more (show _≤20 by lia)
 have l4:=t4.len
 have last:∀{v5:Option V} {c5:Nat} {n5:List Row} {k5:Nat} {H5:Hp},Step K H H5 p c rs k c5 n5 k5 24→Good k k5 n5→Ty many true k k5 n5→
   tFor (z7e (jT (tOp (rI0 fun i j=>.int (i - j)) (tVar 5) (tC (.int 1))) tNil)) (z1U 6) (z6D (z2n z0h [.non] E0 (jT (tVar 2) (jT (z2n (Jp K) [] E0 (jT (tVar 0) (jT (tVar 1) (jT (tLst (jT (tC (.str "drop")) (jT (tC (.str "tell")) (jT (tC (.str "same")) tNil)))) tNil)))) tNil))))
    { nx:=fun _ H'=>Q .non H',rt:=Q } [some (.ref p.a),some (.ref p.t),some (.ref p.r),some (.ref p.m),some (.int e),some (.int many),v5] H5:=by
  intro v5 c5 n5 k5 H5 t5 g5 y5
  refine ⟨_,rfl,_,_,rfl,rfl,many - 1,rfl,by lia,by lia,jj (lo:=0) (n:=(many - 1).toNat) (fun i σ H2=>∃v c' new k',σ=[some (.ref p.a),some (.ref p.t),some (.ref p.r),some (.ref p.m),some (.int e),some (.int many),v]∧Step K H H2 p c rs k c' new k' (24+2 * i)∧Good k k' new∧Ty (many - i) true k k' new)
   ⟨v5,_,_,_,rfl,t5,g5,y5.cast (by lia)⟩ ?_ ?_⟩
  ·rintro i σ H2 hi ⟨v,c',new,k',rfl,st,gd,ty⟩
   have l:=st.len
   refine ⟨_,rfl,_,rfl,_,rfl,by show 3≤sizeLine;decide,fun x hx=>?_⟩
   refine jm st.gs (by have:=st.c2;lia) hx (by show 1≤3;decide) (by show 3≤1000;decide) fun y H6 hy s6=>?_
   obtain ⟨op,rfl,hb,hpl⟩:=z1A hy
   have t6:=st.tick s6
   have l6:=t6.len
   refine zN t6.gs (by lia) fun H7 s7=>?_
   have L:=zE (show (rs++new).length≤15000 by lia)
   exact ⟨_,_,_,_,rfl,(t6.trans s7).more (by lia),gd.put st.k1 hb L.1 L.2,hpl.elim (fun z=>(ty.row z (by lia) _ _).cast (by lia)) (fun z=>(ty.row z (by lia) _ _).cast (by lia))⟩
  ·rintro σ H2 ⟨v,c',new,k',rfl,st,gd,ty⟩
   exact q _ _ _ _ (st.more (by lia)) gd (ty.cast (by lia))
 refine ⟨_,rfl,_,rfl,jo t4.gs (by have:=t4.c2;lia) (by decide) (by decide) fun y0 H5 y00 y01 s5=>?_⟩
 have t5:=t4.tick s5
 have l5:=t5.len
 refine ⟨rfl,_,rfl,?_⟩
 refine ite2 (fun _=>?_) (fun _=>last (t5.more (by lia)) g4 y4)
 refine ⟨_,rfl,_,rfl,_,rfl,_,rfl,jo t5.gs (by have:=t5.c2;lia) (by lia) (by lia) fun z H6 z0 z1 s6=>?_⟩
 have t6:=t5.tick s6
 have l6:=t6.len
 refine ⟨_,_,rfl,rfl,zN t6.gs (by lia) fun H7 s7=>?_⟩
 have t7:=t6.trans s7
 have l7:=t7.len
 refine ⟨_,rfl,zN t7.gs (by lia) fun H8 s8=>?_⟩
 have L6:=zE (show (rs++n4).length≤15000 by lia)
 have L7:=zE (kn t7.len (show _≤15000 by lia))
 exact last ((t7.trans s8).more (by lia)) ((g4.put t4.k1 (z7x (by lia) (by lia)) L6.1 L6.2).put t4.k1 z3N L7.1 L7.2) (((y4.deep z6i (n:=1+z) (by lia) _).row (Z2 _ (by simp)) (by lia) _ _).cast (by lia))
end
section
theorem sc70:zn ["_law_script","_law_town_here","_law_rows","_law_marks","_law_deep","_law_way","_law_mark_here"] gps (ze (top 70)):=fsM
theorem Q9 {v:V} {a b:Str} (h:v∈([.str a,.str b]:List V)) {R:Str→Prop} (ha:R a) (hb:R b):∃op,v=.str op∧R op∧op∈[a,b]:=by
 rcases ky.mp h with e | h
 ·exact ⟨_,e,ha,by simp⟩
 ·exact ⟨_,kl.mp h,hb,by simp⟩
theorem z1y {v:V} (h:v∈([.str "add",.str "sub",.str "mul",.str "div",.str "rest",.str "less",.str "same"]:List V)):∃op,v=.str op∧Bare op .non∧Z6 op 2 1:=by
 have all:∀v∈([.str "add",.str "sub",.str "mul",.str "div",.str "rest",.str "less",.str "same"]:List V),∃op,v=.str op∧zZ op=some ("none":Str)∧Z6 op 2 1:=by
  intro v h
  simp only [ky,km,or_false] at h
  rcases h with rfl | rfl | rfl | rfl | rfl | rfl | rfl
  all_goals exact ⟨_,rfl,by trivial,z5c _ (by simp)⟩
 obtain ⟨op,e,hs,hp⟩:=all v h
 exact ⟨op,e,Zt hs,hp⟩
theorem fn_v {n:Nat} (D:zi K mg "_law_value" (top 70)) (S:jF P w K mg base) (FV:FN P w K mg base (3+2 * n) "_law_value" gps (qm K (CV n) 1 true)) (FT:FN P w K mg base (4+2 * n) "_law_tried_value" gps (qm K (CTV n) 1 true))
  (FM:FN P w K mg base (4+2 * n) "_law_moved_value" gps (qm K (CMV n) 1 true)):FN P w K mg base (3+2 * (n+1)) "_law_value" gps (qm K (CV (n+1)) 1 true):=by
 have:=FN.of (k:=4+2 * n) (sp:=qm K (CV (n+1)) 1 true) (P:=P) (w:=w) (base:=base) D sc70 (fun _ _ _ _ _ _=>zU5 fun _ _ _ _ _=>rfl) qW (fun f cdv A outer s H vs Q E hr h=>?_)
 ·exact this.mono (by lia)
 obtain ⟨p,c,rs,k,e,B,rfl,⟨d,he,hd,hB⟩,g,bc,br,bk,q⟩:=h
 have hr1:=hr.mono (show 1≤4+2 * n by lia)
 have hr2:=hr.mono (show 2≤4+2 * n by lia)
 have hr3:=hr.mono (show 3≤4+2 * n by lia)
 have hrV:=hr.mono (show 3+2 * n≤4+2 * n by lia)
 have hb3:=QM d
 refine ⟨_,z8 (zC (i:=5) sc70.nd rfl (Or.inl rfl) (j9 (zr z2V (pv 4) zh (zB _)) (zp S.draw hr1 rfl (z6 (pv 0) (z6 (pv 1) (z6 zh z7)))) (zp S.draw hr1 rfl (z6 (pv 0) (z6 (pv 1) (z6 zh z7))))))
  (zf (qg (zr Qt (pv 5) zh (zB _)) (zf (zj (zQ S.put3 hr1 rfl (z6 (pv 2) (z6 zq (z6 (zp S.const hr3 rfl (z6 (pv 0) (z6 (pv 1) z7))) z7))))))
  (zf (qg (zr Qt (pv 5) zh (zB _)) (zf (zj (zQ S.put3 hr1 rfl (z6 (pv 2) (z6 zq (z6 (zp S.pick hr2 rfl (z6 (pv 0) (z6 (pv 1) (z6 (qe (z6 zq (z6 zq (z6 zq z7)))) z7)))) z7))))))
  (zf (qg (zr Qt (pv 5) zh (zB _))
   (z8 (zj (zp FV hrV rfl (z6 (pv 0) (z6 (pv 1) (z6 (pv 2) (z6 (pv 3) (z6 (zO j3 (pv 4) zh) z7)))))))
   (z8 (zj (zp FV hrV rfl (z6 (pv 0) (z6 (pv 1) (z6 (pv 2) (z6 (pv 3) (z6 (zO j3 (pv 4) zh) z7)))))))
   (zf (zj (zQ S.put2 hr1 rfl (z6 (pv 2) (z6 (zp S.pick hr2 rfl (z6 (pv 0) (z6 (pv 1) (z6 (qe (z6 zq (z6 zq (z6 zq (z6 zq (z6 zq (z6 zq (z6 zq z7)))))))) z7)))) z7)))))))
  (zf (qg (zr jA (pv 5) zh (zB _))
   (z8 (zj (zp FV hrV rfl (z6 (pv 0) (z6 (pv 1) (z6 (pv 2) (z6 (pv 3) (z6 (zO j3 (pv 4) zh) z7)))))))
   (zf (zj (zQ S.put2 hr1 rfl (z6 (pv 2) (z6 (zp S.pick hr2 rfl (z6 (pv 0) (z6 (pv 1) (z6 (qe (z6 zq (z6 zq z7))) z7)))) z7))))))
  (zf (qg (zr jA (pv 5) zh (zB _))
   (z8 (zC (i:=6) sc70.nd rfl (Or.inl rfl) (zp S.mark hr1 rfl (z6 (pv 3) z7)))
   (z8 (zj (zp FV hrV rfl (z6 (pv 0) (z6 (pv 1) (z6 (pv 2) (z6 (pv 3) (z6 (zO j3 (pv 4) zh) z7)))))))
   (z8 (zj (zQ S.put3 hr1 rfl (z6 (pv 2) (z6 (zp S.pick hr2 rfl (z6 (pv 0) (z6 (pv 1) (z6 (qe (z6 zq (z6 zq z7))) z7)))) (z6 (pv 6) z7)))))
   (z8 (zj (zp FV hrV rfl (z6 (pv 0) (z6 (pv 1) (z6 (pv 2) (z6 (pv 3) (z6 (zO j3 (pv 4) zh) z7)))))))
   (zf (zj (zQ S.put3 hr1 rfl (z6 (pv 2) (z6 zq (z6 (pv 6) z7))))))))))
  (zf (qg (zr jA (pv 5) zh (zB _))
   (zf (zj (zp FT hr rfl (z6 (pv 0) (z6 (pv 1) (z6 (pv 2) (z6 (pv 3) (z6 (pv 4) z7))))))))
   (zf (zj (zp FM hr rfl (z6 (pv 0) (z6 (pv 1) (z6 (pv 2) (z6 (pv 3) (z6 (pv 4) z7)))))))))))))))))))) ,?_⟩
 refine ⟨_,rfl,_,_,rfl,rfl,_,rfl,?_⟩
 refine ite2 (fun c0=>?_) (fun c0=>?_)
 all_goals
  refine ⟨_,rfl,_,rfl,jo g (by lia) (by decide) (by decide) fun i H1 i0 i1 s1=>?_⟩
  have i12:i < 12:=by lia
  have i4:e≤0→i < 4:=fun z=>by
   first
    | exact i1
    | (have:=kw c0;lia)
  have l1:=s1.len
  refine ⟨_,rfl,_,_,rfl,rfl,_,rfl,?_⟩
  refine ite2 (fun c1=>?_) (fun c1=>?_)
  ·refine ⟨_,rfl,_,rfl,_,rfl,z45 s1.gs (by have:=s1.c2;lia) fun v H2 hv hvo s2=>?_⟩
   have t2:=s1.tick s2
   have l2:=t2.len
   refine zN t2.gs (by lia) fun H3 s3=>?_
   have L:=zE (kn t2.len (show _≤15000 by lia))
   exact q _ _ _ _ ((t2.trans s3).more (by lia)) ((Good.nil k).put (kc _) (z7w hv hvo) L.1 L.2) (((Ty.nil k).row z5I (by decide) _ _).cast (by decide))
  ·refine ⟨_,rfl,_,_,rfl,rfl,_,rfl,?_⟩
   refine ite2 (fun c2=>?_) (fun c2=>?_)
   ·refine ⟨_,rfl,_,rfl,_,rfl,by show 3≤sizeLine;decide,fun x hx=>?_⟩
    refine jm s1.gs (by have:=s1.c2;lia) hx (by show 1≤3;decide) (by show 3≤1000;decide) fun v H2 hv s2=>?_
    have t2:=s1.tick s2
    have l2:=t2.len
    refine zN t2.gs (by lia) fun H3 s3=>?_
    have L:=zE (kn t2.len (show _≤15000 by lia))
    exact q _ _ _ _ ((t2.trans s3).more (by lia)) ((Good.nil k).put (kc _) (z5q hv) L.1 L.2) (((Ty.nil k).row z2M (by decide) _ _).cast (by decide))
   ·have c2:¬i < 4:=fun z=>c2 (kg z)
    have e0:¬e≤0:=fun z=>c2 (i4 z)
    obtain ⟨d',rfl⟩:∃d',d=d'+1:=⟨d - 1,by lia⟩
    have eB:bV (d'+1)=2 * bV d'+25:=rfl
    have cv:CV n (e - 1) (bV d'):=⟨d',by lia,by lia,rfl⟩
    refine ⟨_,rfl,_,_,rfl,rfl,_,rfl,?_⟩
    refine ite2 (fun c3=>?_) (fun c3=>?_)
    ·refine ⟨_,rfl,_,rfl,_,rfl,_,rfl,_,rfl,_,_,rfl,rfl,p,_,_,_,_,bV d',rfl,cv,s1.gs,(by have:=s1.c2;lia),(by lia),(by have:=s1.k2;lia),fun c4 n4 k4 H4 s4 g4 y4=>?_⟩
     have t4:=s1.trans s4
     have l4:=t4.len
     refine ⟨_,rfl,_,rfl,_,rfl,_,rfl,_,rfl,_,_,rfl,rfl,p,_,_,_,_,bV d',rfl,cv,t4.gs,(by have:=t4.c2;lia),(by lia),(by have:=t4.k2;lia),fun c5 n5 k5 H5 s5 g5 y5=>?_⟩
     have t5:=t4.trans s5
     have l5:=t5.len
     refine ⟨_,rfl,_,rfl,_,rfl,by show 7≤sizeLine;decide,fun x hx=>?_⟩
     refine jm t5.gs (by have:=t5.c2;lia) hx (by show 1≤7;decide) (by show 7≤1000;decide) fun v H6 hv s6=>?_
     obtain ⟨op,rfl,hb,hpl⟩:=z1y hv
     have t6:=t5.tick s6
     refine zN t6.gs (by have:=t6.len;lia) fun H7 s7=>?_
     have L:=zE (kn t6.len (show _≤15000 by lia))
     exact q _ _ _ _ ((t6.trans s7).more (by lia)) ((((Good.nil k).app g4 (kc _) s4.k1).app g5 s4.k1 s5.k1).put t5.k1 hb L.1 L.2) (((y4.app y5 s4.k1 s5.k1 (by decide)).row hpl (by decide) _ _).cast (by decide))
    ·refine ⟨_,rfl,rfl,_,rfl,?_⟩
     refine ite2 (fun c4=>?_) (fun c4=>?_)
     ·refine ⟨_,rfl,_,rfl,_,rfl,_,rfl,_,rfl,_,_,rfl,rfl,p,_,_,_,_,bV d',rfl,cv,s1.gs,(by have:=s1.c2;lia),(by lia),(by have:=s1.k2;lia),fun c4 n4 k4 H4 s4 g4 y4=>?_⟩
      have t4:=s1.trans s4
      have l4:=t4.len
      refine ⟨_,rfl,_,rfl,_,rfl,by show 2≤sizeLine;decide,fun x hx=>?_⟩
      refine jm t4.gs (by have:=t4.c2;lia) hx (by show 1≤2;decide) (by show 2≤1000;decide) fun v H6 hv s6=>?_
      obtain ⟨op,rfl,hb,hmem⟩:=Q9 hv (R:=fun op=>Bare op .non) (Zt (by trivial)) (Zt (by trivial))
      have t6:=t4.tick s6
      refine zN t6.gs (by have:=t6.len;lia) fun H7 s7=>?_
      have L:=zE (kn t6.len (show _≤15000 by lia))
      exact q _ _ _ _ ((t6.trans s7).more (by lia)) (((Good.nil k).app g4 (kc _) s4.k1).put t4.k1 hb L.1 L.2) ((y4.row (z6V _ hmem) (by decide) _ _).cast (by decide))
     ·refine ⟨_,rfl,rfl,_,rfl,?_⟩
      refine ite2 (fun c5=>?_) (fun c5=>?_)
      ·refine ⟨_,rfl,QT s1.gs (by have:=s1.k2;lia) fun H2 s2=>?_⟩
       have t2:=s1.tick s2
       refine ⟨_,rfl,_,rfl,_,rfl,_,rfl,_,rfl,_,_,rfl,rfl,p,_,_,_,_,bV d',rfl,cv,t2.gs,(by have:=t2.c2;lia),(by have:=t2.len;lia),(by have:=t2.k2;lia),fun c4 n4 k4 H4 s4 g4 y4=>?_⟩
       have t4:=t2.trans s4
       refine ⟨_,rfl,_,rfl,_,rfl,by show 2≤sizeLine;decide,fun x hx=>?_⟩
       refine jm t4.gs (by have:=t4.c2;lia) hx (by show 1≤2;decide) (by show 2≤1000;decide) fun v H5 hv s5=>?_
       obtain ⟨op,rfl,hb,hmem⟩:=Q9 hv (R:=Uses) z7z z7A
       have t5:=t4.tick s5
       refine ⟨_,rfl,zN t5.gs (by have:=t5.len;lia) fun H6 s6=>?_⟩
       have t6:=t5.trans s6
       refine ⟨_,rfl,_,rfl,_,rfl,_,rfl,_,rfl,_,_,rfl,rfl,p,_,_,_,_,bV d',rfl,cv,t6.gs,(by have:=t6.c2;lia),(by have:=t6.len;lia),(by have:=t6.k2;lia),fun c7 n7 k7 H7 s7 g7 y7=>?_⟩
       have t7:=t6.trans s7
       refine ⟨_,rfl,_,rfl,zN t7.gs (by have:=t7.len;lia) fun H8 s8=>?_⟩
       have L5:=zE (kn t5.len (show _≤15000 by lia))
       have L7:=zE (kn t7.len (show _≤15000 by lia))
       refine q _ _ _ _ ((t7.trans s8).more (by lia)) ⟨((((AllG.nil.app g4.row).app (AllG.one (hb.rowG L5.1 L5.2))).app g7.row).app (AllG.one (qL L7.1 L7.2))),fun m=>?_,fun m h=>?_,fun m h=>?_,fun m ha hb'=>?_⟩ (Ty.orv y4 y7 s4.k1 s7.k1 hmem _ _)
       ·simp only [zJ,zU,zV,hb.noLab]
        have:=g4.lab1 m;have:=g4.labI m;have:=g7.lab1 m;have:=g7.labI m;have:=zT m k;have:=s4.k1
        lia
       ·simp only [zJ,zU,zV,hb.noLab] at h
        have:=g4.labI m;have:=g7.labI m;have:=zT m k;have:=s4.k1;have:=s7.k1
        lia
       ·simp only [jZ,Zv,Zw,hb.use] at h
        simp only [zJ,zU,zV,hb.noLab]
        have:=g4.useI m;have:=g7.useI m
        lia
       ·simp only [zJ,zU,zV,hb.noLab]
        have:=g4.labA m;have:=g7.labA m;have:=zT m k
        lia
      ·refine ⟨_,rfl,rfl,_,rfl,?_⟩
       refine ite2 (fun c6=>?_) (fun c6=>?_)
       ·refine ⟨_,rfl,_,rfl,_,rfl,_,rfl,_,rfl,p,_,_,_,_,bV d'+7,rfl,⟨d',by lia,by lia,rfl⟩,s1.gs,(by have:=s1.c2;lia),(by lia),(by have:=s1.k2;lia),fun c4 n4 k4 H4 s4 g4 y4=>?_⟩
        exact q _ _ _ _ ((s1.trans s4).more (by lia)) ((Good.nil k).app g4 (kc _) s4.k1) y4
       ·refine ⟨_,rfl,_,rfl,_,rfl,_,rfl,_,rfl,p,_,_,_,_,30,rfl,⟨by lia,rfl⟩,s1.gs,(by have:=s1.c2;have:=QM d';lia),(by have:=QM d';lia),(by have:=s1.k2;have:=QM d';lia),fun c4 n4 k4 H4 s4 g4 y4=>?_⟩
        exact q _ _ _ _ ((s1.trans s4).more (by have:=QM d';lia)) ((Good.nil k).app g4 (kc _) s4.k1) y4
theorem z1f {name:Str} {st:Stmt} {k:Nat} {C:Int→Nat→Prop} {δ:Int} {su:Bool} (D:zi K mg name st) (hb:∀(kV doc pm:Value) (an:Option Addr) (cdv ct:Value) (us:List Value),us.length=gps.length→bindArgs (PySem.W.fnOf name name (qB st) (zW st) (ze st) .none kV doc pm an cdv ct) ⟨us,[]⟩=pure (gps.zip us))
  (no:∀e B,¬C e B):FN P w K mg base k name gps (qm K C δ su):=by
 obtain ⟨f,fd,F,m⟩:=D
 have no':∀vs H Q E,¬qm K C δ su vs H Q E:=fun vs H Q E h=>by
  obtain ⟨_,_,_,_,e,B,_,hc,_⟩:=h
  exact no e B hc
 exact ⟨f,fd,m,F.kp,F.binds hb,⟨fun vs H Q E h=>absurd h (no' vs H Q E),fun A outer s H args us vs Q E _ _ _ _ h=>absurd h (no' vs H Q E)⟩⟩
theorem JS (DV:zi K mg "_law_value" (top 70)) (DT:zi K mg "_law_tried_value" (top 71)) (DM:zi K mg "_law_moved_value" (top 72)) (G:Glo mg) (S:jF P w K mg base):∀n,FN P w K mg base (3+2 * n) "_law_value" gps (qm K (CV n) 1 true)
 | 0=>z1f DV (fun _ _ _ _ _ _=>zU5 fun _ _ _ _ _=>rfl) fun e B ⟨d,_,h,_⟩=>absurd h (Nat.not_lt_zero _)
 | n+1=>by
  have ih:=JS DV DT DM G S n
  exact fn_v DV S ih (z85 DT S ih) (z88 DM G S ih)
end
noncomputable def bD:Nat→Nat
 | 0=>92
 | d+1=>2 * bD d+200
theorem z0a:∀d,92≤bD d
 | 0=>kc _
 | d+1=>by have:=z0a d;show 92≤2 * bD d+200;lia
def CD (n:Nat) (e:Int) (B:Nat):Prop:=∃d:Nat,e=(d:Int)∧d < n∧B=bD d
def CC (n:Nat) (e:Int) (B:Nat):Prop:=∃d:Nat,e=(d:Int)+1∧d < n∧B=2 * bD d+150
theorem Ty.choice0 {k k1 k2:Nat} {l1 l2:List Row} {s2:Bool} (x:Ty 1 true (k+2) k1 l1) (y:Ty 0 s2 k1 k2 l2) (h1:k+2≤k1) (h2:k1≤k2) {op:Str} (ho:op∈(["iftrue","iffalse"]:List Str)) (a b c e:Int):
  Ty 0 true k k2 (l1++[⟨op,.int (k:Int),a⟩]++l2++[⟨"jump",.int ((k+1:Nat):Int),b⟩]++[⟨"label",.int (k:Int),c⟩]++[⟨"label",.int ((k+1:Nat):Int),e⟩]):=by
 have:=Ty.choice x y (Ty.nil k2) h1 h2 (kc _) ho a b c e
 rw [kQ] at this
 exact this
theorem cv1:CV 3 1 31:=⟨1,rfl,by decide,rfl⟩
theorem cv2:CV 3 2 87:=⟨2,rfl,by decide,rfl⟩
theorem cv0:CV 3 0 3:=⟨0,rfl,by decide,rfl⟩
section
theorem sc74:zn ["_law_script","_law_town_here","_law_rows","_law_marks","_law_deep","_law_other","_law_end"] gps (ze (top 74)):=fsM
theorem z3p {n:Nat} (D:zi K mg "_law_choice" (top 74)) (S:jF P w K mg base) (FV:FN P w K mg base 9 "_law_value" gps (qm K (CV 3) 1 true)) (FD:FN P w K mg base (10+2 * n) "_law_deed" gps (qm K (CD n) 0 false)):FN P w K mg base (11+2 * n) "_law_choice" gps (qm K (CC n) 0 false):=by
 have:=FN.of (k:=10+2 * n) (sp:=qm K (CC n) 0 false) (P:=P) (w:=w) (base:=base) D sc74 (fun _ _ _ _ _ _=>zU5 fun _ _ _ _ _=>rfl) qW (fun f cdv A outer s H vs Q E hr h=>?_)
 ·exact this.mono (by lia)
 obtain ⟨p,c,rs,k,e,B,rfl,⟨d,he,hd,hB⟩,g,bc,br,bk,q⟩:=h
 have hr1:=hr.mono (show 1≤10+2 * n by lia)
 have hr2:=hr.mono (show 2≤10+2 * n by lia)
 have hr9:=hr.mono (show 9≤10+2 * n by lia)
 have bp:=z0a d
 have cd:CD n (e - 1) (bD d):=⟨d,by lia,hd,rfl⟩
 refine ⟨_,z8 (Qz (i:=5) (j:=6) rfl sc74.nd rfl rfl (by decide) rfl rfl (z6 (zp S.mark hr1 rfl (z6 (pv 3) z7)) (z6 (zp S.mark hr1 rfl (z6 (pv 3) z7)) z7)) rfl)
  (z8 (zj (zp FV hr9 rfl (z6 (pv 0) (z6 (pv 1) (z6 (pv 2) (z6 (pv 3) (z6 zh z7)))))))
  (z8 (zj (zQ S.put3 hr1 rfl (z6 (pv 2) (z6 (zp S.pick hr2 rfl (z6 (pv 0) (z6 (pv 1) (z6 (qe (z6 zq (z6 zq z7))) z7)))) (z6 (pv 5) z7)))))
  (z8 (zj (zp FD hr rfl (z6 (pv 0) (z6 (pv 1) (z6 (pv 2) (z6 (pv 3) (z6 (zO j3 (pv 4) zh) z7)))))))
  (z8 (zj (zQ S.put3 hr1 rfl (z6 (pv 2) (z6 zq (z6 (pv 6) z7)))))
  (z8 (zj (zQ S.put3 hr1 rfl (z6 (pv 2) (z6 zq (z6 (pv 5) z7)))))
  (z8 (qg (zr jA (zp S.draw hr1 rfl (z6 (pv 0) (z6 (pv 1) (z6 zh z7)))) zh (zB _))
   (zf (zj (zp FD hr rfl (z6 (pv 0) (z6 (pv 1) (z6 (pv 2) (z6 (pv 3) (z6 (zO j3 (pv 4) zh) z7)))))))) zH)
  (zf (zj (zQ S.put3 hr1 rfl (z6 (pv 2) (z6 zq (z6 (pv 6) z7)))))))))))) ,?_⟩
 refine ⟨_,rfl,QT g (by lia) fun H1 s1=>?_⟩
 refine ⟨_,rfl,QT s1.gs (by have:=s1.k2;lia) fun H2 s2=>?_⟩
 refine ⟨_,_,rfl,?_⟩
 have t2:=s1.tick s2
 refine ⟨_,rfl,_,rfl,_,rfl,_,rfl,p,_,_,_,_,31,rfl,cv1,t2.gs,(by have:=t2.c2;lia),(by have:=t2.len;lia),(by have:=t2.k2;lia),fun c3 n3 k3 H3 s3 g3 y3=>?_⟩
 have t3:=t2.trans s3
 refine ⟨_,rfl,_,rfl,_,rfl,by show 2≤sizeLine;decide,fun x hx=>?_⟩
 refine jm t3.gs (by have:=t3.c2;lia) hx (by show 1≤2;decide) (by show 2≤1000;decide) fun v H4 hv s4=>?_
 obtain ⟨op,rfl,hb,hmem⟩:=Q9 hv (R:=Uses) z0e z7B
 have hmem:op∈(["iftrue","iffalse"]:List Str):=by
  rcases ky.mp hmem with z | z
  ·rw [z];decide+kernel
  ·rw [kl.mp z];decide+kernel
 have t4:=t3.tick s4
 refine ⟨_,rfl,zN t4.gs (by have:=t4.len;lia) fun H5 s5=>?_⟩
 have t5:=t4.trans s5
 refine ⟨_,rfl,_,rfl,_,rfl,_,rfl,_,rfl,_,_,rfl,rfl,p,_,_,_,_,bD d,rfl,cd,t5.gs,(by have:=t5.c2;lia),(by have:=t5.len;lia),(by have:=t5.k2;lia),fun c6 n6 k6 H6 s6 g6 y6=>?_⟩
 have t6:=t5.trans s6
 refine ⟨_,rfl,_,rfl,zN t6.gs (by have:=t6.len;lia) fun H7 s7=>?_⟩
 have t7:=t6.trans s7
 refine ⟨_,rfl,_,rfl,zN t7.gs (by have:=t7.len;lia) fun H8 s8=>?_⟩
 have t8:=t7.trans s8
 refine ⟨_,rfl,_,rfl,jo t8.gs (by have:=t8.c2;lia) (by decide) (by decide) fun y0 H9 y00 y01 s9=>?_⟩
 have t9:=t8.tick s9
 have L4:=zE (kn t4.len (show _≤15000 by lia))
 have L6:=zE (kn t6.len (show _≤15000 by lia))
 have L7:=zE (kn t7.len (show _≤15000 by lia))
 have all9:=((((AllG.nil.app g3.row).app (AllG.one (hb.rowG (j:=k) L4.1 L4.2))).app g6.row).app (AllG.one (qd.rowG (j:=k+1) L6.1 L6.2))).app (AllG.one (qL (j:=k) L7.1 L7.2))
 refine ⟨rfl,_,rfl,?_⟩
 refine ite2 (fun _=>?_) (fun _=>?_)
 ·refine ⟨_,rfl,_,rfl,_,rfl,_,rfl,_,rfl,_,_,rfl,rfl,p,_,_,_,_,bD d,rfl,cd,t9.gs,(by have:=t9.c2;lia),(by have:=t9.len;lia),(by have:=t9.k2;lia),fun cA nA kA HA sA gA yA=>?_⟩
  have tA:=t9.trans sA
  refine ⟨_,rfl,_,rfl,zN tA.gs (by have:=tA.len;lia) fun HB sB=>?_⟩
  have LA:=zE (kn tA.len (show _≤15000 by lia))
  refine q _ _ _ _ ((tA.trans sB).more (by lia)) ⟨(all9.app gA.row).app (AllG.one (qL LA.1 LA.2)),fun m=>?_,fun m h=>?_,fun m h=>?_,fun m ha hb'=>?_⟩ (Ty.choice y3 y6 yA s3.k1 s6.k1 sA.k1 hmem _ _ _ _).weak
  ·simp only [zJ,zU,zV,hb.noLab,qd.noLab]
   have:=g3.lab1 m;have:=g3.labI m;have:=g6.lab1 m;have:=g6.labI m;have:=gA.lab1 m;have:=gA.labI m;have:=zT m k;have:=zT m (k+1);have:=s3.k1;have:=s6.k1
   lia
  ·simp only [zJ,zU,zV,hb.noLab,qd.noLab] at h
   have:=g3.labI m;have:=g6.labI m;have:=gA.labI m;have:=zT m k;have:=zT m (k+1);have:=s3.k1;have:=s6.k1;have:=sA.k1
   lia
  ·simp only [jZ,Zv,Zw,hb.use,qd.use] at h
   simp only [zJ,zU,zV,hb.noLab,qd.noLab]
   have:=g3.useI m;have:=g6.useI m;have:=gA.useI m
   lia
  ·simp only [zJ,zU,zV,hb.noLab,qd.noLab]
   have:=g3.labA m;have:=g6.labA m;have:=gA.labA m;have:=zT m k;have:=zT m (k+1)
   lia
 ·refine ⟨_,rfl,_,rfl,zN t9.gs (by have:=t9.len;lia) fun HB sB=>?_⟩
  have LA:=zE (kn t9.len (show _≤15000 by lia))
  refine q _ _ _ _ ((t9.trans sB).more (by lia)) ⟨all9.app (AllG.one (qL LA.1 LA.2)),fun m=>?_,fun m h=>?_,fun m h=>?_,fun m ha hb'=>?_⟩ (Ty.choice0 y3 y6 s3.k1 s6.k1 hmem _ _ _ _).weak
  ·simp only [zJ,zU,zV,hb.noLab,qd.noLab]
   have:=g3.lab1 m;have:=g3.labI m;have:=g6.lab1 m;have:=g6.labI m;have:=zT m k;have:=zT m (k+1);have:=s3.k1
   lia
  ·simp only [zJ,zU,zV,hb.noLab,qd.noLab] at h
   have:=g3.labI m;have:=g6.labI m;have:=zT m k;have:=zT m (k+1);have:=s3.k1;have:=s6.k1
   lia
  ·simp only [jZ,Zv,Zw,hb.use,qd.use] at h
   simp only [zJ,zU,zV,hb.noLab,qd.noLab]
   have:=g3.useI m;have:=g6.useI m
   lia
  ·simp only [zJ,zU,zV,hb.noLab,qd.noLab]
   have:=g3.labA m;have:=g6.labA m;have:=zT m k;have:=zT m (k+1)
   lia
theorem sc75:zn ["_law_script","_law_town_here","_law_rows","_law_marks","_law_deep","_law_begin","_law_end"] gps (ze (top 75)):=fsM
theorem z4F {n:Nat} (D:zi K mg "_law_round" (top 75)) (S:jF P w K mg base) (FV:FN P w K mg base 9 "_law_value" gps (qm K (CV 3) 1 true)) (FD:FN P w K mg base (10+2 * n) "_law_deed" gps (qm K (CD n) 0 false)):FN P w K mg base (11+2 * n) "_law_round" gps (qm K (CC n) 0 false):=by
 have:=FN.of (k:=10+2 * n) (sp:=qm K (CC n) 0 false) (P:=P) (w:=w) (base:=base) D sc75 (fun _ _ _ _ _ _=>zU5 fun _ _ _ _ _=>rfl) qW (fun f cdv A outer s H vs Q E hr h=>?_)
 ·exact this.mono (by lia)
 obtain ⟨p,c,rs,k,e,B,rfl,⟨d,he,hd,hB⟩,g,bc,br,bk,q⟩:=h
 have hr1:=hr.mono (show 1≤10+2 * n by lia)
 have hr9:=hr.mono (show 9≤10+2 * n by lia)
 have bp:=z0a d
 have cd:CD n (e - 1) (bD d):=⟨d,by lia,hd,rfl⟩
 refine ⟨_,z8 (Qz (i:=5) (j:=6) rfl sc75.nd rfl rfl (by decide) rfl rfl (z6 (zp S.mark hr1 rfl (z6 (pv 3) z7)) (z6 (zp S.mark hr1 rfl (z6 (pv 3) z7)) z7)) rfl)
  (z8 (zj (zQ S.put3 hr1 rfl (z6 (pv 2) (z6 zq (z6 (pv 5) z7)))))
  (z8 (zj (zp FV hr9 rfl (z6 (pv 0) (z6 (pv 1) (z6 (pv 2) (z6 (pv 3) (z6 zh z7)))))))
  (z8 (zj (zQ S.put3 hr1 rfl (z6 (pv 2) (z6 zq (z6 (pv 6) z7)))))
  (z8 (zj (zp FD hr rfl (z6 (pv 0) (z6 (pv 1) (z6 (pv 2) (z6 (pv 3) (z6 (zO j3 (pv 4) zh) z7)))))))
  (z8 (zj (zQ S.put3 hr1 rfl (z6 (pv 2) (z6 zq (z6 (pv 5) z7)))))
  (zf (zj (zQ S.put3 hr1 rfl (z6 (pv 2) (z6 zq (z6 (pv 6) z7))))))))))),?_⟩
 refine ⟨_,rfl,QT g (by lia) fun H1 s1=>?_⟩
 refine ⟨_,rfl,QT s1.gs (by have:=s1.k2;lia) fun H2 s2=>?_⟩
 refine ⟨_,_,rfl,?_⟩
 have t2:=s1.tick s2
 refine ⟨_,rfl,_,rfl,zN t2.gs (by have:=t2.len;lia) fun H3 s3=>?_⟩
 have t3:=t2.trans s3
 refine ⟨_,rfl,_,rfl,_,rfl,_,rfl,p,_,_,_,_,31,rfl,cv1,t3.gs,(by have:=t3.c2;lia),(by have:=t3.len;lia),(by have:=t3.k2;lia),fun c4 n4 k4 H4 s4 g4 y4=>?_⟩
 have t4:=t3.trans s4
 refine ⟨_,rfl,_,rfl,zN t4.gs (by have:=t4.len;lia) fun H5 s5=>?_⟩
 have t5:=t4.trans s5
 refine ⟨_,rfl,_,rfl,_,rfl,_,rfl,_,rfl,_,_,rfl,rfl,p,_,_,_,_,bD d,rfl,cd,t5.gs,(by have:=t5.c2;lia),(by have:=t5.len;lia),(by have:=t5.k2;lia),fun c6 n6 k6 H6 s6 g6 y6=>?_⟩
 have t6:=t5.trans s6
 refine ⟨_,rfl,_,rfl,zN t6.gs (by have:=t6.len;lia) fun H7 s7=>?_⟩
 have t7:=t6.trans s7
 refine ⟨_,rfl,_,rfl,zN t7.gs (by have:=t7.len;lia) fun H8 s8=>?_⟩
 have L2:=zE (kn t2.len (show _≤15000 by lia))
 have L4:=zE (kn t4.len (show _≤15000 by lia))
 have L6:=zE (kn t6.len (show _≤15000 by lia))
 have L7:=zE (kn t7.len (show _≤15000 by lia))
 refine q _ _ _ _ ((t7.trans s8).more (by lia)) ⟨((((((AllG.nil.app (AllG.one (qL L2.1 L2.2))).app g4.row).app (AllG.one (z0e.rowG L4.1 L4.2))).app g6.row).app (AllG.one (qd.rowG L6.1 L6.2))).app (AllG.one (qL L7.1 L7.2))),fun m=>?_,fun m h=>?_,fun m h=>?_,fun m ha hb'=>?_⟩ (Ty.round y4 y6 s4.k1 s6.k1 _ _ _ _).weak
 ·simp only [zJ,zU,zV,z0e.noLab,qd.noLab]
  have:=g4.lab1 m;have:=g4.labI m;have:=g6.lab1 m;have:=g6.labI m;have:=zT m k;have:=zT m (k+1);have:=s4.k1
  lia
 ·simp only [zJ,zU,zV,z0e.noLab,qd.noLab] at h
  have:=g4.labI m;have:=g6.labI m;have:=zT m k;have:=zT m (k+1);have:=s4.k1;have:=s6.k1
  lia
 ·simp only [jZ,Zv,Zw,z0e.use,qd.use] at h
  simp only [zJ,zU,zV,z0e.noLab,qd.noLab]
  have:=g4.useI m;have:=g6.useI m
  lia
 ·simp only [zJ,zU,zV,z0e.noLab,qd.noLab]
  have:=g4.labA m;have:=g6.labA m;have:=zT m k;have:=zT m (k+1)
  lia
theorem sc76:zn ["_law_script","_law_town_here","_law_rows","_law_marks","_law_deep","_law_hand","_law_end"] gps (ze (top 76)):=fsM
theorem z2N {v:V} (h:v∈([.str "drop",.str "tell",.str "raise"]:List V)):∃op,v=.str op∧Bare op .non∧op∈(["drop","tell","raise"]:List Str):=by
 rcases ky.mp h with e | h
 ·exact ⟨_,e,z3N,by simp⟩
 ·rcases ky.mp h with e | h
  ·exact ⟨_,e,z3L,by simp⟩
  ·exact ⟨_,kl.mp h,z3M,by simp⟩
theorem z4E {n:Nat} (D:zi K mg "_law_tried" (top 76)) (S:jF P w K mg base) (FD:FN P w K mg base (10+2 * n) "_law_deed" gps (qm K (CD n) 0 false)):FN P w K mg base (11+2 * n) "_law_tried" gps (qm K (CC n) 0 false):=by
 have:=FN.of (k:=10+2 * n) (sp:=qm K (CC n) 0 false) (P:=P) (w:=w) (base:=base) D sc76 (fun _ _ _ _ _ _=>zU5 fun _ _ _ _ _=>rfl) qW (fun f cdv A outer s H vs Q E hr h=>?_)
 ·exact this.mono (by lia)
 obtain ⟨p,c,rs,k,e,B,rfl,⟨d,he,hd,hB⟩,g,bc,br,bk,q⟩:=h
 have hr1:=hr.mono (show 1≤10+2 * n by lia)
 have hr2:=hr.mono (show 2≤10+2 * n by lia)
 have bp:=z0a d
 have cd:CD n (e - 1) (bD d):=⟨d,by lia,hd,rfl⟩
 have cd0:CD n 0 92:=⟨0,rfl,by lia,rfl⟩
 refine ⟨_,z8 (Qz (i:=5) (j:=6) rfl sc76.nd rfl rfl (by decide) rfl rfl (z6 (zp S.mark hr1 rfl (z6 (pv 3) z7)) (z6 (zp S.mark hr1 rfl (z6 (pv 3) z7)) z7)) rfl)
  (z8 (zj (zQ S.put3 hr1 rfl (z6 (pv 2) (z6 zq (z6 (pv 5) z7)))))
  (z8 (zj (zp FD hr rfl (z6 (pv 0) (z6 (pv 1) (z6 (pv 2) (z6 (pv 3) (z6 (zO j3 (pv 4) zh) z7)))))))
  (z8 (zj (zp FD hr rfl (z6 (pv 0) (z6 (pv 1) (z6 (pv 2) (z6 (pv 3) (z6 zh z7)))))))
  (z8 (zj (zQ S.put2 hr1 rfl (z6 (pv 2) (z6 zq z7))))
  (z8 (zj (zQ S.put3 hr1 rfl (z6 (pv 2) (z6 zq (z6 (pv 6) z7)))))
  (z8 (zj (zQ S.put3 hr1 rfl (z6 (pv 2) (z6 zq (z6 (pv 5) z7)))))
  (z8 (zj (zQ S.put2 hr1 rfl (z6 (pv 2) (z6 (zp S.pick hr2 rfl (z6 (pv 0) (z6 (pv 1) (z6 (qe (z6 zq (z6 zq (z6 zq z7)))) z7)))) z7))))
  (z8 (zj (zp FD hr rfl (z6 (pv 0) (z6 (pv 1) (z6 (pv 2) (z6 (pv 3) (z6 zh z7)))))))
  (zf (zj (zQ S.put3 hr1 rfl (z6 (pv 2) (z6 zq (z6 (pv 6) z7)))))))))))))) ,?_⟩
 refine ⟨_,rfl,QT g (by lia) fun H1 s1=>?_⟩
 refine ⟨_,rfl,QT s1.gs (by have:=s1.k2;lia) fun H2 s2=>?_⟩
 refine ⟨_,_,rfl,?_⟩
 have t2:=s1.tick s2
 refine ⟨_,rfl,_,rfl,zN t2.gs (by have:=t2.len;lia) fun H3 s3=>?_⟩
 have t3:=t2.trans s3
 refine ⟨_,rfl,_,rfl,_,rfl,_,rfl,_,rfl,_,_,rfl,rfl,p,_,_,_,_,bD d,rfl,cd,t3.gs,(by have:=t3.c2;lia),(by have:=t3.len;lia),(by have:=t3.k2;lia),fun c4 n4 k4 H4 s4 g4 y4=>?_⟩
 have t4:=t3.trans s4
 refine ⟨_,rfl,_,rfl,_,rfl,_,rfl,p,_,_,_,_,92,rfl,cd0,t4.gs,(by have:=t4.c2;lia),(by have:=t4.len;lia),(by have:=t4.k2;lia),fun c5 n5 k5 H5 s5 g5 y5=>?_⟩
 have t5:=t4.trans s5
 refine ⟨_,rfl,zN t5.gs (by have:=t5.len;lia) fun H6 s6=>?_⟩
 have t6:=t5.trans s6
 refine ⟨_,rfl,_,rfl,zN t6.gs (by have:=t6.len;lia) fun H7 s7=>?_⟩
 have t7:=t6.trans s7
 refine ⟨_,rfl,_,rfl,zN t7.gs (by have:=t7.len;lia) fun H8 s8=>?_⟩
 have t8:=t7.trans s8
 refine ⟨_,rfl,_,rfl,_,rfl,by show 3≤sizeLine;decide,fun x hx=>?_⟩
 refine jm t8.gs (by have:=t8.c2;lia) hx (by show 1≤3;decide) (by show 3≤1000;decide) fun v H9 hv s9=>?_
 obtain ⟨op,rfl,hb,hmem⟩:=z2N hv
 have t9:=t8.tick s9
 refine zN t9.gs (by have:=t9.len;lia) fun HA sA=>?_
 have tA:=t9.trans sA
 refine ⟨_,rfl,_,rfl,_,rfl,_,rfl,p,_,_,_,_,92,rfl,cd0,tA.gs,(by have:=tA.c2;lia),(by have:=tA.len;lia),(by have:=tA.k2;lia),fun cB nB kB HB sB gB yB=>?_⟩
 have tB:=tA.trans sB
 refine ⟨_,rfl,_,rfl,zN tB.gs (by have:=tB.len;lia) fun HC sC=>?_⟩
 have L2:=zE (kn t2.len (show _≤15000 by lia))
 have L5:=zE (kn t5.len (show _≤15000 by lia))
 have L6:=zE (kn t6.len (show _≤15000 by lia))
 have L7:=zE (kn t7.len (show _≤15000 by lia))
 have L9:=zE (kn t9.len (show _≤15000 by lia))
 have LB:=zE (kn tB.len (show _≤15000 by lia))
 refine q _ _ _ _ ((tB.trans sC).more (by lia)) ⟨(((((((((AllG.nil.app (AllG.one (ZM.rowG L2.1 L2.2))).app g4.row).app g5.row).app (AllG.one (ZP.rowG L5.1 L5.2))).app (AllG.one (qd.rowG L6.1 L6.2))).app (AllG.one (qL L7.1 L7.2))).app (AllG.one (hb.rowG L9.1 L9.2))).app gB.row).app (AllG.one (qL LB.1 LB.2))),fun m=>?_,fun m h=>?_,fun m h=>?_,fun m ha hb'=>?_⟩ (by
  have yy:=fun a b c e f g=>(Ty.tried (y4.app y5 s4.k1 s5.k1 (by decide)) yB (kn s4.k1 s5.k1) sB.k1 hmem a b c e f g).weak
  simp only [←kR] at yy
  exact yy _ _ _ _ _ _)
 ·simp only [zJ,zU,zV,ZM.noLab,qd.noLab,ZP.noLab,hb.noLab]
  have:=g4.lab1 m;have:=g4.labI m;have:=g5.lab1 m;have:=g5.labI m;have:=gB.lab1 m;have:=gB.labI m;have:=zT m k;have:=zT m (k+1);have:=s4.k1;have:=s5.k1
  lia
 ·simp only [zJ,zU,zV,ZM.noLab,qd.noLab,ZP.noLab,hb.noLab] at h
  have:=g4.labI m;have:=g5.labI m;have:=gB.labI m;have:=zT m k;have:=zT m (k+1);have:=s4.k1;have:=s5.k1;have:=sB.k1
  lia
 ·simp only [jZ,Zv,Zw,ZM.use,qd.use,ZP.noUse,hb.noUse] at h
  simp only [zJ,zU,zV,ZM.noLab,qd.noLab,ZP.noLab,hb.noLab]
  have:=g4.useI m;have:=g5.useI m;have:=gB.useI m
  lia
 ·simp only [zJ,zU,zV,ZM.noLab,qd.noLab,ZP.noLab,hb.noLab]
  have:=g4.labA m;have:=g5.labA m;have:=gB.labA m;have:=zT m k;have:=zT m (k+1)
  lia
end
section
theorem sc73:zn ["_law_script","_law_town_here","_law_rows","_law_marks","_law_deep","_law_way"] gps (ze (top 73)):=fsM
theorem z6e {n:Nat} (D:zi K mg "_law_deed" (top 73)) (S:jF P w K mg base) (FV:FN P w K mg base 9 "_law_value" gps (qm K (CV 3) 1 true)) (FC:FN P w K mg base (11+2 * n) "_law_choice" gps (qm K (CC n) 0 false)) (FR:FN P w K mg base (11+2 * n) "_law_round" gps (qm K (CC n) 0 false))
  (FT:FN P w K mg base (11+2 * n) "_law_tried" gps (qm K (CC n) 0 false)):FN P w K mg base (10+2 * (n+1)) "_law_deed" gps (qm K (CD (n+1)) 0 false):=by
 have:=FN.of (k:=11+2 * n) (sp:=qm K (CD (n+1)) 0 false) (P:=P) (w:=w) (base:=base) D sc73 (fun _ _ _ _ _ _=>zU5 fun _ _ _ _ _=>rfl) qW (fun f cdv A outer s H vs Q E hr h=>?_)
 ·exact this.mono (by lia)
 obtain ⟨p,c,rs,k,e,B,rfl,⟨d,he,hd,hB⟩,g,bc,br,bk,q⟩:=h
 have hr1:=hr.mono (show 1≤11+2 * n by lia)
 have hr2:=hr.mono (show 2≤11+2 * n by lia)
 have hr9:=hr.mono (show 9≤11+2 * n by lia)
 have hb3:=z0a d
 refine ⟨_,z8 (zC (i:=5) sc73.nd rfl (Or.inl rfl) (j9 (zr z2V (pv 4) zh (zB _)) (zp S.draw hr1 rfl (z6 (pv 0) (z6 (pv 1) (z6 zh z7)))) (zp S.draw hr1 rfl (z6 (pv 0) (z6 (pv 1) (z6 zh z7))))))
  (zf (qg (zr Qt (pv 5) zh (zB _))
   (z8 (zj (zp FV hr9 rfl (z6 (pv 0) (z6 (pv 1) (z6 (pv 2) (z6 (pv 3) (z6 zh z7)))))))
    (zf (zj (zQ S.put3 hr1 rfl (z6 (pv 2) (z6 zq (z6 (zp S.pick hr2 rfl (z6 (pv 0) (z6 (pv 1) (z6 (qe (z6 zq (z6 zq (z6 zq z7)))) z7)))) z7)))))))
  (zf (qg (zr jA (pv 5) zh (zB _))
   (z8 (zj (zp FV hr9 rfl (z6 (pv 0) (z6 (pv 1) (z6 (pv 2) (z6 (pv 3) (z6 zh z7)))))))
    (zf (zj (zQ S.put2 hr1 rfl (z6 (pv 2) (z6 zq z7))))))
  (zf (qg (zr jA (pv 5) zh (zB _))
   (zf (zj (zQ S.put3 hr1 rfl (z6 (pv 2) (z6 zq (z6 (zp S.pick hr2 rfl (z6 (pv 0) (z6 (pv 1) (z6 (qe (z6 zq (z6 zq z7))) z7)))) z7))))))
  (zf (qg (zr Qt (pv 5) zh (zB _))
   (zf (zj (zp FC hr rfl (z6 (pv 0) (z6 (pv 1) (z6 (pv 2) (z6 (pv 3) (z6 (pv 4) z7))))))))
  (zf (qg (zr Qt (pv 5) zh (zB _))
   (zf (zj (zp FR hr rfl (z6 (pv 0) (z6 (pv 1) (z6 (pv 2) (z6 (pv 3) (z6 (pv 4) z7))))))))
  (zf (qg (zr jA (pv 5) zh (zB _))
   (zf (zj (zp FT hr rfl (z6 (pv 0) (z6 (pv 1) (z6 (pv 2) (z6 (pv 3) (z6 (pv 4) z7))))))))
   (z8 (zj (zp FV hr9 rfl (z6 (pv 0) (z6 (pv 1) (z6 (pv 2) (z6 (pv 3) (z6 zh z7)))))))
    (zf (zj (zQ S.put2 hr1 rfl (z6 (pv 2) (z6 zq z7)))))))))))))))))) ,?_⟩
 refine ⟨_,rfl,_,_,rfl,rfl,_,rfl,?_⟩
 refine ite2 (fun c0=>?_) (fun c0=>?_)
 all_goals
  refine ⟨_,rfl,_,rfl,jo g (by lia) (by decide) (by decide) fun i H1 i0 i1 s1=>?_⟩
  have i12:i < 10:=by lia
  have i4:e≤0→i < 4:=fun z=>by
   first
    | exact i1
    | (have:=kw c0;lia)
  have l1:=s1.len
  refine ⟨_,rfl,_,_,rfl,rfl,_,rfl,?_⟩
  refine ite2 (fun c1=>?_) (fun c1=>?_)
  ·refine ⟨_,rfl,_,rfl,_,rfl,_,rfl,p,_,_,_,_,31,rfl,cv1,s1.gs,(by have:=s1.c2;lia),(by lia),(by have:=s1.k2;lia),fun c4 n4 k4 H4 s4 g4 y4=>?_⟩
   have t4:=s1.trans s4
   refine ⟨_,rfl,_,rfl,_,rfl,by show 3≤sizeLine;decide,fun x hx=>?_⟩
   refine jm t4.gs (by have:=t4.c2;lia) hx (by show 1≤3;decide) (by show 3≤1000;decide) fun v H5 hv s5=>?_
   have t5:=t4.tick s5
   refine zN t5.gs (by have:=t5.len;lia) fun H6 s6=>?_
   have L:=zE (kn t5.len (show _≤15000 by lia))
   exact q _ _ _ _ ((t5.trans s6).more (by lia)) (((Good.nil k).app g4 (kc _) s4.k1).put t4.k1 (z6q hv) L.1 L.2) ((y4.row (Z2 _ (by simp)) (by decide) _ _).cast (by decide)).weak
  ·refine ⟨_,rfl,rfl,_,rfl,?_⟩
   refine ite2 (fun c2=>?_) (fun c2=>?_)
   ·refine ⟨_,rfl,_,rfl,_,rfl,_,rfl,p,_,_,_,_,87,rfl,cv2,s1.gs,(by have:=s1.c2;lia),(by lia),(by have:=s1.k2;lia),fun c4 n4 k4 H4 s4 g4 y4=>?_⟩
    have t4:=s1.trans s4
    refine ⟨_,rfl,zN t4.gs (by have:=t4.len;lia) fun H6 s6=>?_⟩
    have L:=zE (kn t4.len (show _≤15000 by lia))
    exact q _ _ _ _ ((t4.trans s6).more (by lia)) (((Good.nil k).app g4 (kc _) s4.k1).put t4.k1 z3L L.1 L.2) ((y4.row (Z2 _ (by simp)) (by decide) _ _).cast (by decide)).weak
   ·refine ⟨_,rfl,rfl,_,rfl,?_⟩
    refine ite2 (fun c3=>?_) (fun c3=>?_)
    ·refine ⟨_,rfl,_,rfl,_,rfl,by show 2≤sizeLine;decide,fun x hx=>?_⟩
     refine jm s1.gs (by have:=s1.c2;lia) hx (by show 1≤2;decide) (by show 2≤1000;decide) fun v H5 hv s5=>?_
     have t5:=s1.tick s5
     refine zN t5.gs (by have:=t5.len;lia) fun H6 s6=>?_
     have L:=zE (kn t5.len (show _≤15000 by lia))
     exact q _ _ _ _ ((t5.trans s6).more (by lia)) ((Good.nil k).put (kc _) (z6r hv) L.1 L.2) (((Ty.nil k).row z48 (by decide) _ _).cast (by decide)).weak
    ·have d1:¬i < 2:=fun z=>c1 (kg z)
     have d2:¬i=2:=fun z=>c2 (by rw [z];rfl)
     have d3:¬i=3:=fun z=>c3 (by rw [z];rfl)
     have e0:¬e≤0:=fun z=>by have:=i4 z;lia
     obtain ⟨d',rfl⟩:∃d',d=d'+1:=⟨d - 1,by lia⟩
     have eB:bD (d'+1)=2 * bD d'+200:=rfl
     have cc:CC n e (2 * bD d'+150):=⟨d',by lia,by lia,rfl⟩
     refine ⟨_,rfl,_,_,rfl,rfl,_,rfl,?_⟩
     refine ite2 (fun c4=>?_) (fun c4=>?_)
     ·refine ⟨_,rfl,_,rfl,_,rfl,_,rfl,_,rfl,p,_,_,_,_,_,rfl,cc,s1.gs,(by have:=s1.c2;lia),(by lia),(by have:=s1.k2;lia),fun c4 n4 k4 H4 s4 g4 y4=>?_⟩
      exact q _ _ _ _ ((s1.trans s4).more (by lia)) ((Good.nil k).app g4 (kc _) s4.k1) y4
     ·refine ⟨_,rfl,_,_,rfl,rfl,_,rfl,?_⟩
      refine ite2 (fun c5=>?_) (fun c5=>?_)
      ·refine ⟨_,rfl,_,rfl,_,rfl,_,rfl,_,rfl,p,_,_,_,_,_,rfl,cc,s1.gs,(by have:=s1.c2;lia),(by lia),(by have:=s1.k2;lia),fun c4 n4 k4 H4 s4 g4 y4=>?_⟩
       exact q _ _ _ _ ((s1.trans s4).more (by lia)) ((Good.nil k).app g4 (kc _) s4.k1) y4
      ·refine ⟨_,rfl,rfl,_,rfl,?_⟩
       refine ite2 (fun c6=>?_) (fun c6=>?_)
       ·refine ⟨_,rfl,_,rfl,_,rfl,_,rfl,_,rfl,p,_,_,_,_,_,rfl,cc,s1.gs,(by have:=s1.c2;lia),(by lia),(by have:=s1.k2;lia),fun c4 n4 k4 H4 s4 g4 y4=>?_⟩
        exact q _ _ _ _ ((s1.trans s4).more (by lia)) ((Good.nil k).app g4 (kc _) s4.k1) y4
       ·refine ⟨_,rfl,_,rfl,_,rfl,_,rfl,p,_,_,_,_,3,rfl,cv0,s1.gs,(by have:=s1.c2;lia),(by lia),(by have:=s1.k2;lia),fun c4 n4 k4 H4 s4 g4 y4=>?_⟩
        have t4:=s1.trans s4
        refine ⟨_,rfl,zN t4.gs (by have:=t4.len;lia) fun H6 s6=>?_⟩
        have L:=zE (kn t4.len (show _≤15000 by lia))
        exact q _ _ _ _ ((t4.trans s6).more (by lia)) (((Good.nil k).app g4 (kc _) s4.k1).put t4.k1 z3M L.1 L.2) (Ty.rais y4 _)
theorem z1e {k:Nat} {rs:List Row} (h:∃Γl:Int→Option Sta,∀Γ,Ext Γ Γl 0 k→chk Γ rs (some (0,[]))=some none):∃Γ:Int→Option Sta,(∀m,Γ m≠none→0≤m∧m < (k:Int))∧chk Γ rs (some (0,[]))=some none:=by
 obtain ⟨Γl,q⟩:=h
 refine ⟨fun m=>if 0≤m∧m < (k:Int) then Γl m else none,fun m hm=>?_,q _ fun m _ hm=>kr ⟨by lia,by lia⟩⟩
 by_cases z:0≤m∧m < (k:Int)
 ·exact z
 ·exact absurd (kq z) hm
theorem z5w:∃Γ:Int→Option Sta,(∀m,Γ m≠none→0≤m∧m < ((0:Nat):Int))∧chk Γ [⟨"load",.str "a",7⟩,⟨"return",.non,8⟩] (some (0,[]))=some none:=
 z1e ((Ty.nil 0).whole (((Ty.nil 0).row z2M (by decide) (.str "a") 7).cast (by decide)) (kc _) (kc _) 8 (by decide))
theorem z1g (DD:zi K mg "_law_deed" (top 73)) (DC:zi K mg "_law_choice" (top 74)) (DR:zi K mg "_law_round" (top 75)) (DT:zi K mg "_law_tried" (top 76)) (S:jF P w K mg base) (FV:FN P w K mg base 9 "_law_value" gps (qm K (CV 3) 1 true)):
  ∀n,FN P w K mg base (10+2 * n) "_law_deed" gps (qm K (CD n) 0 false)
 | 0=>z1f DD (fun _ _ _ _ _ _=>zU5 fun _ _ _ _ _=>rfl) fun e B ⟨d,_,h,_⟩=>absurd h (Nat.not_lt_zero _)
 | n+1=>by
  have ih:=z1g DD DC DR DT S FV n
  exact z6e DD S FV (z3p DC S FV ih) (z4F DR S FV ih) (z4E DT S ih)
def Jr (K:ko):Sp:=fun vs H Q _=>∃(a t:Addr) (ns:List Int) (c:Nat) (cells:List Int) (many:Int),vs=[.ref a,.ref t,.int many]∧Scr K H a (ns.map V.int)∧ns.length≤1000∧cells.length=ns.length∧H t=some (.lst (qQ c cells))∧c≤100∧1≤many∧many≤12∧
 ∀(l:Addr) (as:List Addr) (rs:List Row) (k c':Nat) (cells':List Int) H',H' l=some (.lst (as.map V.ref))→zP H' as rs→Good 0 k rs→(∃Γ:Int→Option Sta,(∀m,Γ m≠none→0≤m∧m < (k:Int))∧chk Γ rs (some (0,[]))=some none)→k≤90→1≤rs.length→rs.length≤140→l≠t→cells'.length=ns.length→H' t=some (.lst (qQ c' cells'))→c'≤14000→Jk H H' t→Q (.ref l) H'
theorem sc77:zn ["_law_script","_law_town_here","_law_many","_law_rows","_law_marks","_law_k"] ["_law_script","_law_town_here","_law_many"] (ze (top 77)):=fsM
theorem cd2:CD 3 2 968:=⟨2,rfl,by decide,rfl⟩
theorem z1X (D:zi K mg "_law_code" (top 77)) (G:Glo mg) (S:jF P w K mg base) (FV:FN P w K mg base 9 "_law_value" gps (qm K (CV 3) 1 true)) (FD:FN P w K mg base 16 "_law_deed" gps (qm K (CD 3) 0 false)):FN P w K mg base 17 "_law_code" ["_law_script","_law_town_here","_law_many"] (Jr K):=by
 refine FN.o D sc77 fun f cdv A outer s H vs Q E hr h=>?_
 obtain ⟨a,t,ns,c,cells,many,rfl,hS,hns,hcl,hT,hc,hm1,hm2,q⟩:=h
 have hr1:=hr.mono (show 1≤16 by decide)
 have hr9:=hr.mono (show 9≤16 by decide)
 refine ⟨_,z8 (zC (i:=3) sc77.nd rfl (Or.inl rfl) (qe z7))
  (z8 (zC (i:=4) sc77.nd rfl (Or.inl rfl) (qe z7))
  (z8 (jf PassesOwn.never rfl (qM rfl G.range (z6 (zO ja zh (zp S.draw hr1 rfl (z6 (pv 0) (z6 (pv 1) (z6 (pv 2) z7))))) z7)) (zu (i:=5) sc77.nd rfl (Or.inl rfl))
   (zf (qg (zr Qt (zw zx rfl G.len zS (z6 (pv 3) z7)) zh (zB _))
    (zf (zj (zp FD hr rfl (z6 (pv 0) (z6 (pv 1) (z6 (pv 3) (z6 (pv 4) (z6 zh z7)))))))) zH)))
  (z8 (zj (zp FV hr9 rfl (z6 (pv 0) (z6 (pv 1) (z6 (pv 3) (z6 (pv 4) (z6 zh z7)))))))
  (z8 (zj (zQ S.put2 hr1 rfl (z6 (pv 3) (z6 zq z7))))
  (z8 (qg (PW.pt (Qs (zr z2V (zw zx rfl G.len zS (z6 (pv 3) z7)) zh (zB _)) (Ze (zr z2V (zw zx rfl G.len zS (z6 (pv 4) z7)) zh (zB _)))))
   (zf (zv (qe (z6 (qY (z6 zq (z6 zq (z6 zh z7)))) (z6 (qY (z6 zq (z6 qU (z6 zh z7)))) z7))))) zH)
  (zf (zv (pv 3)))))))),?_⟩
 refine ⟨by show 0≤sizeLine;decide,fun r hr0=>⟨by show 0≤sizeLine;decide,fun m hm0=>?_⟩⟩
 have sr:Same H (upd H r (.lst [])):=zk hr0 _
 have sm:Same (upd H r (.lst [])) (upd (upd H r (.lst [])) m (.lst [])):=zk hm0 _
 have rm:r≠m:=zc (H:=upd H r (.lst [])) zb hm0
 have tr:t≠r:=zc hT hr0
 have tm:t≠m:=zc (sr _ _ hT) hm0
 have s02:=sr.trans sm
 generalize hH2:upd (upd H r (.lst [])) m (.lst [])=H2 at *
 have hr2:H2 r=some (.lst []):=by rw [←hH2,zg rm];exact zb
 have hm2':H2 m=some (.lst []):=by rw [←hH2];exact zb
 have g:GS K H2 ⟨a,t,r,m,ns⟩ c [] 0:=⟨hS.keep fun o u e=>s02 _ _ e,hns,⟨cells,hcl,s02 _ _ hT⟩,⟨[],hr2,.nil⟩,hm2',tr,tm,rm⟩
 generalize hp:(⟨a,t,r,m,ns⟩:Pl)=p at *
 have pa:p.a=a:=by rw [←hp]
 have pt:p.t=t:=by rw [←hp]
 have pr:p.r=r:=by rw [←hp]
 have pm:p.m=m:=by rw [←hp]
 have pn:p.ns=ns:=by rw [←hp]
 subst pa pt pr pm pn
 clear hp
 refine ⟨_,rfl,_,rfl,_,rfl,jo g (by lia) (by lia) (by lia) fun j H3 j0 j1 s3=>?_⟩
 refine ⟨_,_,rfl,rfl,1+j,rfl,by lia,by lia,jj (lo:=0) (n:=(1+j).toNat) (fun i σ H4=>∃v c' new k',σ=[some (.ref p.a),some (.ref p.t),some (.int many),some (.ref p.r),some (.ref p.m),v]∧Step K H2 H4 p c [] 0 c' new k' (1+968 * i)∧Good 0 k' new∧Ty 0 false 0 k' new)
  ⟨none,_,_,_,rfl,s3,Good.nil 0,(Ty.nil 0).weak⟩ ?_ ?_⟩
 ·rintro i σ H4 hi ⟨v,c',new,k',rfl,st,gd,ty⟩
  have hin:i < 12:=by lia
  have l:=st.len
  obtain ⟨as,h3,h4⟩:=st.gs.rows
  refine ⟨_,rfl,p.r,_,rfl,.inl (SqL.of h3),_,_,rfl,rfl,_,rfl,?_⟩
  refine ite2 (fun c4=>?_) (fun c4=>?_)
  ·refine ⟨_,rfl,_,rfl,_,rfl,_,rfl,p,_,_,_,_,968,rfl,cd2,st.gs,(by have:=st.c2;lia),(by simp at l ⊢;lia),(by have:=st.k2;lia),fun c5 n5 k5 H5 s5 g5 y5=>?_⟩
   exact ⟨_,c5,new++n5,k5,rfl,(st.trans s5).more (by lia),gd.app g5 (Nat.zero_le _) s5.k1,(ty.app y5 (Nat.zero_le _) s5.k1 (by decide)).cast (by decide)⟩
  ·exact ⟨_,c',new,k',rfl,st.more (by lia),gd,ty⟩
 rintro σ H4 ⟨v4,c4,n4,k4,rfl,t4,g4,y4⟩
 have t4:=t4.more (show _≤11617 by lia)
 refine ⟨_,rfl,_,rfl,_,rfl,_,rfl,p,_,_,_,_,31,rfl,cv1,t4.gs,(by have:=t4.c2;lia),(by have:=t4.len;simp at this ⊢;lia),(by have:=t4.k2;lia),fun c5 n5 k5 H5 s5 g5 y5=>?_⟩
 have t5:=t4.trans s5
 refine ⟨_,rfl,zN t5.gs (by have:=t5.len;simp at this ⊢;lia) fun H6 s6=>?_⟩
 have t6:=t5.trans s6
 have L5:=zE (kn t5.len (show _≤15000 by simp))
 have g6:=(g4.app g5 (Nat.zero_le _) s5.k1).put (Nat.zero_le _) z1o L5.1 L5.2
 have cK:n4.length+n5.length≤998→∃Γ:Int→Option Sta,(∀m,Γ m≠none→0≤m∧m < (k5:Int))∧chk Γ (n4++n5++[(⟨Str.ofString "return",.non,10+(([]++(n4++n5):List Row).length:Int) / 2⟩:Row)]) (some (0,[]))=some none:=fun hz=>z1e (y4.whole y5 (Nat.zero_le _) s5.k1 _ hz)
 have hlen:(n4++n5++[(⟨Str.ofString "return",.non,10+(([]++(n4++n5):List Row).length:Int) / 2⟩:Row)]).length=n4.length+n5.length+1:=by rw [ki,ki];rfl
 generalize hn:n4++n5++[(⟨Str.ofString "return",.non,10+(([]++(n4++n5):List Row).length:Int) / 2⟩:Row)]=nn at *
 have hpos:1≤nn.length:=by rw [←hn];simp only [ki,kL,List.length_nil,kC];lia
 obtain ⟨as,h3,h4⟩:=t6.gs.rows
 have hal:(as.map V.ref).length=nn.length:=by rw [kh,h4.len];rfl
 obtain ⟨cells',hl',hT'⟩:=t6.gs.town
 have hc6:=t6.c2
 have kp:Jk H H6 p.t:=fun b o e hb=>t6.keep b o (s02 _ _ e) hb (zc e hr0) (fun z=>by
  have:=sr _ _ e
  rw [z,hm0] at this
  cases this)
 have two:∀H7,Same H6 H7→∀x y l,H7 x=some (.tup [.str "load",.str "a",.int 7])→H7 y=some (.tup [.str "return",.non,.int 8])→H7 l=some (.lst [.ref x,.ref y])→l≠p.t→Q (.ref l) H7:=fun H7 s7 x y l hx hy hl hlt=>by
  have b1:Bare "load" (.str "a"):=z5q (by simp)
  refine q l [x,y] [⟨"load",.str "a",7⟩,⟨"return",.non,8⟩] 0 _ cells' H7 hl (.cons hx (.cons hy .nil)) ?_ z5w (by decide) (by simp) (by simp) hlt hl' (s7 _ _ hT') (by lia) fun b o e hb=>s7 _ _ (kp b o e hb)
  exact (b1.good (by decide) (by decide) 0).put (kc _) z1o (by decide) (by decide)
 have fin:nn.length≤140→k5≤90→Q (.ref p.r) H6:=fun h1 h2=>q p.r as nn k5 _ cells' H6 h3 h4 g6 (cK (by lia)) h2 hpos h1 g.tr.symm hl' hT' (by lia) kp
 refine ⟨_,rfl,p.r,_,rfl,.inl (SqL.of h3),_,_,rfl,rfl,_,rfl,?_⟩
 have short:tTup (jT (tC (.str "load")) (jT (tC (.str "a")) (jT (tC (.int 7)) tNil))) [some (.ref p.a),some (.ref p.t),some (.int many),some (.ref p.r),some (.ref p.m),v4] H6 (fun x H7=>tTup (jT (tC (.str "return")) (jT (tC .non) (jT (tC (.int 8)) tNil))) [some (.ref p.a),some (.ref p.t),some (.int many),some (.ref p.r),some (.ref p.m),v4] H7 fun y H8=>[x,y].length≤sizeLine∧∀l,H8 l=none→Q (.ref l) (upd H8 l (.lst [x,y]))):=by
  refine ⟨by show 3≤sizeLine;decide,fun x hx=>⟨by show 3≤sizeLine;decide,fun y hy=>⟨by show 2≤sizeLine;decide,fun l hl=>?_⟩⟩⟩
  have sx:Same H6 (upd H6 x (.tup [.str "load",.str "a",.int 7])):=zk hx _
  have sy:=zk hy (.tup [.str "return",.non,.int 8])
  have sl:=zk hl (.lst [.ref x,.ref y])
  refine two _ (sx.trans (sy.trans sl)) x y l (sl _ _ (sy _ _ zb)) (sl _ _ zb) zb ?_
  exact (zc (sy _ _ (sx _ _ hT')) hl).symm
 refine ite2 (fun c1=>?_) (fun c1=>?_)
 ·exact iteT short
 ·have hn1:nn.length≤140:=by
   rw [hal] at c1
   have:¬((140:Int) < (nn.length:Int)):=fun z=>c1 (kg z)
   lia
  refine ⟨_,rfl,p.m,_,rfl,.inl (SqL.of t6.gs.marks),_,_,rfl,rfl,_,rfl,?_⟩
  refine ite2 (fun c2=>short) (fun c2=>?_)
  rw [ZA] at c2
  have hk:k5≤90:=by
   have:¬((90:Int) < (k5:Int)):=fun z=>c2 (kg z)
   lia
  exact ⟨_,rfl,fin hn1 hk⟩
end
set_option autoImplicit false
set_option linter.unusedVariables false
theorem Zp {p:Row→Bool}:∀(l:List Row) (i:Nat) (r:Row),l[i]?=some r→p r=true→l.countP p≤1→l.findIdx? p=some i
 | [],_,_,h,_,_=>by simp at h
 | x :: l,0,r,h,hp,_=>by
  have e:x=r:=by simpa using h
  rw [List.findIdx?_cons,e,kr hp]
 | x :: l,i+1,r,h,hp,hc=>by
  have h':l[i]?=some r:=by simpa using h
  have hm:=kD h'
  have hpos:0 < l.countP p:=List.countP_pos_iff.mpr ⟨r,hm,hp⟩
  rw [List.countP_cons] at hc
  have hx:¬p x=true:=fun e=>by rw [kr e] at hc;lia
  rw [kq hx] at hc
  rw [List.findIdx?_cons,kq hx,Zp l i r h' hp hc]
  rfl
theorem JV {p:Row→Bool} {l:List Row} (h:l.countP p≠0):(l.findIdx? p).isSome=true:=by
 rw [List.findIdx?_isSome,List.any_eq_true]
 have:0 < l.countP p:=by lia
 obtain ⟨r,h1,h2⟩:=List.countP_pos_iff.mp this
 exact ⟨r,h1,h2⟩
theorem Good.mark {k:Nat} {rs:List Row} (g:Good 0 k rs) {r:Row} (hr:r∈rs) (hs:zZ r.op=some ("mark":Str)) {m:Nat} (hm:r.arg=.int (m:Int)):lab m rs≠0:=by
 by_cases c:r.op="label"
 ·have:0 < rs.countP (J9 m):=List.countP_pos_iff.mpr ⟨r,hr,by unfold J9;rw [kg c,kg hm];rfl⟩
  unfold lab
  lia
 ·refine g.useI m ?_
  have:0 < rs.countP (J8 m):=List.countP_pos_iff.mpr ⟨r,hr,by unfold J8;rw [kg hs,kg c,kg hm];rfl⟩
  unfold use
  lia
theorem Good.typed {k:Nat} {rs:List Row} (g:Good 0 k rs) (h:∃Γ:Int→Option Sta,(∀m,Γ m≠none→0≤m∧m < (k:Int))∧chk Γ rs (some (0,[]))=some none):∃S,z51 rs S:=by
 obtain ⟨Γ,h1,h2⟩:=h
 refine ⟨_,z40 (fun m s e=>?_) h2⟩
 obtain ⟨a,b⟩:=h1 m (by rw [e];nofun)
 obtain ⟨j,rfl⟩:=kU a
 exact JV (g.labA j (Nat.zero_le _) (by lia))
theorem Good.code {k:Nat} {rs:List Row} (g:Good 0 k rs) (hk:k≤90) (h1:1≤rs.length) (h2:rs.length≤150):Code rs:=by
 refine ⟨fun r hr=>?_,fun i r hi=>?_,h1,h2⟩
 ·obtain ⟨s,hs,l0,l1,_,h⟩:=g.row r hr
  have hf:j6 s r.arg=true:=by
   rcases h with ⟨rfl,m,hm⟩ | ⟨_,hf⟩
   ·have:=(g.labI m (g.mark hr hs hm)).2
    rw [hm]
    exact Z4 (lo:=0) (hi:=99) (fun x=>by rfl) (by lia) (by lia)
   ·exact hf
  show rowV r.op r.arg (.int r.line)=true
  unfold rowV ZE
  rw [hs]
  show (true&&j6 s r.arg&&qJ (.int r.line) 0 9999)=true
  rw [hf]
  show qJ (.int r.line) 0 9999=true
  show (decide (0≤r.line)&&decide (r.line≤9999))=true
  rw [kg l0,kg l1]
  rfl
 ·have hr:=kD hi
  obtain ⟨s,hs,l0,l1,_,h⟩:=g.row r hr
  unfold ju
  by_cases c:r.op="label"
  ·rw [kr c]
   have e:s="mark":=by
    rw [c,jP] at hs
    exact (ku hs).symm
   rcases h with ⟨_,m,hm⟩ | ⟨hn,_⟩
   ·rw [hm]
    show decide (zG rs (m:Int)=some i)=true
    exact kg (Zp rs i r hi (by show (decide (r.op="label")&&decide (r.arg=.int (m:Int)))=true;rw [kg c,kg hm];rfl) (g.lab1 m))
   ·exact absurd e hn
  ·rw [kq c]
   by_cases c2:zZ r.op=some ("mark":Str)
   ·rw [kr c2]
    have e:s="mark":=by
     rw [c2] at hs
     exact (ku hs).symm
    rcases h with ⟨_,m,hm⟩ | ⟨hn,_⟩
    ·rw [hm]
     exact JV (g.mark hr c2 hm)
    ·exact absurd e hn
   ·rw [kq c2]
end My
set_option maxHeartbeats 4000000
namespace L2
open PySem PySem.Spec PyProof.Rows
section
variable {prog:Program} {w:World} {A:Around} {E:Value→Shared→Prop} {s:Shared}
end
section
variable {X:Cx}
end
end L2
namespace L2
open PySem PySem.Spec PyProof.Rows
section
variable {X:Cx}
theorem z72 (hu:X.A.units < cLine):OpR X (compareOp .NotEq) (fun x y H Q=>∃(l l':Addr) (xs:List V),x=.ref l∧y=.ref l'∧SqL X.K H l xs∧SqL X.K H l' []∧Q (.bl (!xs.isEmpty)) H):=by
 intro pins s σ H x y v u Q I rx ry h
 obtain ⟨l,l',xs,rfl,rfl,hl,hl',q⟩:=h
 cases rx
 cases ry
 obtain ⟨its,rv,pl,_⟩:=I.list hl
 obtain ⟨its',rv',pl',_⟩:=I.list hl'
 cases rv'
 cases rv with
 | nil=>exact SeqAt.RcNeAt.lists (e:=fun j=>true) pl.isList pl'.isList rfl hu (fun j h1 h2=>absurd h1 (by simp)) X.prog X.w X.xe _ ⟨.bl _,H,I,rfl,q⟩
 | cons r t=>exact SeqAt.RcNeAt.lists_lengths pl.isList pl'.isList (by simp) hu X.prog X.w X.xe _ ⟨.bl _,H,I,rfl,q⟩
end
end L2
set_option maxHeartbeats 8000000
namespace My
open PySem PySem.Spec PyProof.Rows L2
variable {P:Program} {w:World} {K:ko} {mg:Str→Option Value} {base:Heap}
theorem Zo (j:Nat) (ks:List Nat):inV (.int (j:Int)) (nats ks)=decide (j∈ks):=by
 unfold inV nats
 rw [List.any_map,Bool.eq_iff_iff,List.any_eq_true,decide_eq_true_iff]
 constructor
 ·rintro ⟨x,hx,e⟩
  have e:((x:Int) == (j:Int))=true:=e
  rw [beq_iff_eq] at e
  have:x=j:=by lia
  exact this▸hx
 ·exact fun h=>⟨j,h,by show ((j:Int) == (j:Int))=true;simp⟩
theorem jD (ks:List Nat):(nats ks).all ZC=true:=by
 unfold nats
 rw [List.all_map,List.all_eq_true]
 exact fun _ _=>rfl
noncomputable def barI:Option Nat→Int
 | none=> -1
 | some j=>(j:Int)
theorem z0F {b:Option Nat} {j:Nat}:(V.int (j:Int)=V.int (barI b))↔b=some j:=by
 cases b with
 | none=>
  constructor
  ·intro z
   injection z with z
   have z:(j:Int)= -1:=z
   lia
  ·exact nofun
 | some k=>
  constructor
  ·intro z
   injection z with z
   have z:(j:Int)=(k:Int):=z
   have:j=k:=by lia
   rw [this]
  ·intro z
   cases z
   rfl
section
theorem sc65:zn ["_law_thing"] ["_law_thing"] (ze (top 65)):=fsM
theorem z4C (D:zi K mg "_law_whole" (top 65)) (G:Glo mg):FN P w K mg base 1 "_law_whole" ["_law_thing"] (sp1 z3a):=by
 refine FN.o D sc65 fun f cdv A outer s H vs Q E hr h=>?_
 obtain ⟨x,rfl,hx,q⟩:=h
 refine ⟨_,zf (zv (jh (zw qb rfl G.isinstance zF (z6 (pv 0) (z6 (Qa "int" rfl G.int z1m) z7)))
  (jg (z5d (zw qb rfl G.isinstance zF (z6 (pv 0) (z6 (Qa "bool" rfl G.bool Qo) z7))))))),?_⟩
 obtain ⟨t1,ty1,k1⟩:=z1b (K:=K) (H:=H) hx
 obtain ⟨t2,ty2,k2⟩:=Qm (K:=K) (H:=H) hx
 refine ⟨_,rfl,_,"int",t1,_,rfl,ty1,k1,_,rfl,?_⟩
 cases hx with
 | non=>exact q
 | bl b=>exact ⟨_,rfl,_,"bool",t2,_,rfl,ty2,k2,_,rfl,q⟩
 | int i=>exact ⟨_,rfl,_,"bool",t2,_,rfl,ty2,k2,_,rfl,q⟩
 | str s _=>exact q
def z0N:Sp:=fun vs H Q _=>∃(l:Addr) (ks:List Nat),vs=[.ref l]∧H l=some (.lst (nats ks))∧ks.length≤1000∧∀H',Same H H'→Q (.bl true) H'
theorem sc66:zn ["_law_thing"] ["_law_thing"] (ze (top 66)):=fsM
theorem ndO:(["_law_one"]:List Str).Nodup:=by decide
theorem z3l (D:zi K mg "_law_wholes" (top 66)) (G:Glo mg) (FW:FN P w K mg base 1 "_law_whole" ["_law_thing"] (sp1 z3a)):FN P w K mg base 2 "_law_wholes" ["_law_thing"] z0N:=by
 refine FN.o D sc66 fun f cdv A outer s H vs Q E hr h=>?_
 obtain ⟨l,ks,rfl,hl,hn,q⟩:=h
 have hu:(A.deeper (envOfC "_law_wholes" (ze (top 66)) s.heap.objs.size f cdv)).units < cLine:=hr.units0
 refine ⟨_,zf (zv (jh (zw qb rfl G.isinstance zF (z6 (pv 0) (z6 (Qa "list" rfl G.list Zs) z7)))
  (jg (qZ (z5g hu) (z0Y (N:=["_law_one"]) (nt:=1) (ix:=[]) (cl:=[]) rfl (qf.plain (by trivial) (by trivial) rfl (by trivial) rfl) (jd (pv 0))
    (fun _ _ _ _=>zu (i:=0) ndO rfl (Or.inl rfl)) (fun _ _ _ _=>Q6 (Q8 (je (zp FW hr rfl (z6 (pv 0) z7))))) (fun _ _ _ _=>pv 0)) (qe z7) (zB _))))),?_⟩
 refine ⟨_,rfl,_,"list",_,true,rfl,.lst hl,rfl,_,rfl,iteT ?_⟩
 refine ⟨_,rfl,l,rfl,⟨_,SqL.of hl⟩,fun bl hbl=>jR (K:=K) (a:=l) (xs:=nats ks) (fun i ys σ H2=>(∃a:Option V,σ=[a])∧ys=[]∧Same H H2∧H2 bl=some (.lst ys))
  ⟨⟨none,rfl⟩,rfl,zk hbl _,zb⟩ (fun i ys σ H2 _ ⟨_,_,s2,_⟩=>s2.seq (SqL.of hl)) ?_ ?_⟩
 ·rintro i x ys σ H2 hi ⟨⟨b,rfl⟩,rfl,s2,hp2⟩
  have hil:i < ks.length:=by have:=(ke.mp hi).1;rw [zD] at this;exact this
  obtain ⟨g,_,rfl⟩:=jM hi
  refine qI ?_
  refine ⟨_,rfl,_,rfl,.int _,_,rfl,iteF ⟨ks.length - (i+1),by rw [zD];lia,by rw [zD],by rw [zD];lia,⟨_,rfl⟩,rfl,s2,hp2⟩⟩
 ·rintro ys σ H2 ⟨_,rfl,s2,hp2⟩
  refine ⟨by show 0≤sizeLine;decide,fun e he=>?_⟩
  have s3:=zk he (.lst [])
  refine ⟨bl,e,[],rfl,rfl,SqL.of (s3 _ _ hp2),SqL.of zb,?_⟩
  rw [kg rfl]
  exact q _ (s2.trans s3)
def z6M (K:ko):Sp:=fun vs H Q _=>∃nl ls N b,vs=[.ref nl,.int (barI b)]∧H nl=some (.lst (ls.map V.ref))∧zL H ls N∧z6w N∧
 ∀fl ks H',Same H H'→H fl=none→H' fl=some (.lst (nats ks))→ks.Nodup→(∀k,k∈ks↔Rb N b k)→Q (.ref fl) H'
theorem sc78:zn ["_law_nexts","_law_barred","_law_found","_law_at","_law_j"] ["_law_nexts","_law_barred"] (ze (top 78)):=fsM
structure AllS (H H2:Hp) (fl:Addr) (N:List (List Nat)) (b:Option Nat) (ks:List Nat) (at':Nat):Prop where
 same:Same H H2
 fnd:H2 fl=some (.lst (nats ks))
 nd:ks.Nodup
 rb:∀k∈ks,Rb N b k
 zero:0∈ks∨b=some 0
 clo:∀(i k:Nat) l,i < at'→ks[i]?=some k→N[k]?=some l→∀j∈l,j∈ks∨b=some j
 le:at'≤ks.length
def z7I:TE:=fun σ H Q=>∃b:Option Nat,σ[1]?=some (some (.int (barI b)))∧∀fl H',H fl=none→Same H H'→H' fl=some (.lst (nats (if b=some 0 then [] else [0])))→Q (.ref fl) H'
theorem z7o (D:zi K mg "_law_all" (top 78)) (G:Glo mg):FN P w K mg base 1 "_law_all" ["_law_nexts","_law_barred"] (z6M K):=by
 refine FN.o D sc78 fun f cdv A outer s H vs Q E hr h=>?_
 obtain ⟨nl,ls,N,b,rfl,hnl,hL,gN,q⟩:=h
 have kle:∀ks:List Nat,ks.Nodup→(∀k∈ks,Rb N b k)→ks.length≤N.length:=fun ks h1 h2=>by
  have:=JH (M:=List.range N.length) h1 fun x hx=>List.mem_range.mpr ((h2 x hx).lt gN.in_ gN.lo)
  rw [List.length_range] at this
  exact this
 have hnh:=gN.hi
 refine ⟨_,z8 (zC (i:=2) sc78.nd rfl (Or.inl rfl) (PE.imp (t':=z7I) (j9 (zr z1C (pv 1) zh (zB _)) (qe (z6 zh z7)) (qe z7)) ?m1))
  (z8 (zC (i:=3) sc78.nd rfl (Or.inl rfl) zh)
  (z8 (QU PassesOwn.never (zr Qt (pv 3) (zw zx rfl G.len zS (z6 (pv 2) z7)) (zB _))
   (z8 (jf PassesOwn.never rfl (jd (qa zK (pv 0) (qa zK (pv 2) (pv 3) (fun _ _=>rfl)) (fun _ _=>rfl))) (zu (i:=4) sc78.nd rfl (Or.inl rfl))
    (zf (qg (PW.pt (Qy (zr z1C (pv 4) (pv 1) (zB _)) (Zy (zr qN (pv 4) (pv 2) rfl)))) (zf (zj (jV (pv 2) (z6 (pv 4) z7)))) zH)))
   (zf (zC (i:=3) sc78.nd rfl (Or.inl rfl) (zO ja (pv 3) zh)))))
  (zf (zv (pv 2))))),?_⟩
 case m1=>
  rintro σ H3 Q' ⟨b',e,k⟩
  refine ⟨_,e,rfl,_,rfl,?_⟩
  by_cases hb:b'=some 0
  ·subst hb
   exact iteF ⟨Nat.zero_le _,fun fl hfl=>k fl _ hfl (zk hfl _) zb⟩
  ·have hne:(!decide (V.int (barI b')=V.int 0))=true:=by
    have:¬(V.int (barI b')=V.int 0):=fun z=>hb (z0F (j:=0) |>.mp z.symm)
    rw [kf this]
    rfl
   rw [hne]
   refine iteT ⟨by show 1≤sizeLine;decide,fun fl hfl=>k fl _ hfl (zk hfl _) ?_⟩
   rw [kq hb]
   exact zb
 refine ⟨b,rfl,fun fl H1 hfl s1 h1=>?_⟩
 refine ⟨fun m σ H2=>∃(ks:List Nat) (at':Nat) (v4:Option V),σ=[some (.ref nl),some (.int (barI b)),some (.ref fl),some (.int (at':Nat)),v4]∧AllS H H2 fl N b ks at'∧m=N.length - at',⟨N.length - 0,_,0,none,rfl,⟨s1,h1,?_,fun k hk=>?_,?_,fun i k l hi=>absurd hi (Nat.not_lt_zero _),Nat.zero_le _⟩,rfl⟩,?_⟩
 ·split
  ·exact .nil
  ·simp
 ·by_cases hb:b=some 0
  ·rw [kr hb] at hk
   cases hk
  ·rw [kq hb] at hk
   rw [kl.mp hk]
   exact .zero hb
 ·by_cases hb:b=some 0
  ·exact .inr hb
  ·rw [kq hb]
   exact .inl (by simp)
 rintro m σ H2 ⟨ks,at',v4,rfl,S,rfl⟩
 have hkl:=kle ks S.nd S.rb
 refine ⟨_,rfl,_,rfl,fl,_,rfl,.inl (SqL.of S.fnd),_,_,rfl,rfl,_,rfl,?_⟩
 rw [zD]
 by_cases hlt:at' < ks.length
 case neg=>
  rw [kf (show ¬((at':Nat):Int) < ((ks.length:Nat):Int) by lia)]
  refine iteF ⟨_,rfl,q fl ks H2 S.same hfl S.fnd S.nd fun k=>⟨S.rb k,fun h=>?_⟩⟩
  refine h.closed (C:=fun k=>k∈ks) S.zero fun i l hi hl j hj=>?_
  obtain ⟨ix,hix,e⟩:=List.mem_iff_getElem.mp hi
  exact S.clo ix i l (by lia) (by rw [kH hix,e]) hl j hj
 rw [kg (show ((at':Nat):Int) < ((ks.length:Nat):Int) by lia)]
 refine iteT ⟨fun σ' H'=>∃m',m' < N.length - at'∧∃(ks:List Nat) (at':Nat) (v4:Option V),σ'=[some (.ref nl),some (.int (barI b)),some (.ref fl),some (.int (at':Nat)),v4]∧AllS H H' fl N b ks at'∧m'=N.length - at',fun σ' H' h=>h,?_⟩
 obtain ⟨k,ek⟩:∃k,ks[at']?=some k:=⟨ks[at'],kH hlt⟩
 have hkN:=(S.rb k (kD ek)).lt gN.in_ gN.lo
 have el:N[k]?=some N[k]:=kH hkN
 obtain ⟨la,e1,e2⟩:=hL.get el
 have e3:(ls.map V.ref)[k]?=some (.ref la):=by rw [List.getElem?_map,e1];rfl
 have ek':(nats ks)[at']?=some (.int (k:Int)):=by unfold nats;rw [List.getElem?_map,ek];rfl
 have lnf:la≠fl:=fun z=>by rw [z,hfl] at e2;cases e2
 refine ⟨_,rfl,_,rfl,_,rfl,fl,_,_,_,rfl,rfl,SqL.of S.fnd,zy ek',nl,_,_,_,rfl,rfl,SqL.of (S.same _ _ hnl),zy e3,la,rfl,⟨_,SqL.of (S.same _ _ e2)⟩,
  Ja (K:=K) (a:=la) (xs:=nats N[k]) (fun j σ H3=>∃(ks':List Nat) (v4:Option V),σ=[some (.ref nl),some (.int (barI b)),some (.ref fl),some (.int (at':Nat)),v4]∧Same H H3∧H3 fl=some (.lst (nats ks'))∧ks'.Nodup∧(∀k∈ks',Rb N b k)∧(∃t,ks'=ks++t)∧∀x∈N[k].take j,x∈ks'∨b=some x)
   ⟨ks,_,rfl,S.same,S.fnd,S.nd,S.rb,⟨[],by simp⟩,fun x hx=>by simp at hx⟩ (fun j σ H3 _ ⟨_,_,_,s3,_⟩=>SqL.of (s3 _ _ e2)) ?_ ?_⟩
 ·rintro j x σ H3 hj ⟨ks',v4',rfl,s3,h3,nd3,rb3,⟨t,et⟩,hx3⟩
  obtain ⟨g,eg,rfl⟩:=jM hj
  have hk3:=kle ks' nd3 rb3
  have mono:∀ks2:List Nat,(∀z∈ks',z∈ks2)→(g∈ks2∨b=some g)→∀x∈N[k].take (j+1),x∈ks2∨b=some x:=fun ks2 hsub hg x hx=>by
   rw [qj eg] at hx
   rcases kO.mp hx with h | h
   ·exact (hx3 x h).imp (hsub x) id
   ·rw [kl.mp h]
    exact hg
  refine qI ⟨_,rfl,_,rfl,rfl,_,rfl,?_⟩
  by_cases hb:b=some g
  ·rw [kg (z0F.mpr hb)]
   exact iteF (iteF ⟨ks',_,rfl,s3,h3,nd3,rb3,⟨t,et⟩,mono ks' (fun _ h=>h) (.inr hb)⟩)
  ·rw [kf (fun z=>hb (z0F.mp z))]
   refine iteT ⟨_,rfl,_,rfl,fl,_,rfl,.inl (SqL.of h3),rfl,jD _,_,rfl,?_⟩
   rw [Zo]
   by_cases hg:g∈ks'
   ·rw [kg hg]
    exact iteF ⟨ks',_,rfl,s3,h3,nd3,rb3,⟨t,et⟩,mono ks' (fun _ h=>h) (.inl hg)⟩
   ·rw [kf hg]
    have hkr:Rb N b k:=S.rb k (kD ek)
    refine iteT ⟨_,rfl,.inl ⟨rfl,_,SqL.of h3⟩,_,rfl,fl,_,_,rfl,rfl,h3,q0 (by rw [zD];lia),ks'++[g],_,rfl,fun b' o e=>?_,?_,?_,fun z hz=>?_,⟨t++[g],by rw [et,kR]⟩,mono _ (fun z hz=>by simp [hz]) (.inl (by simp))⟩
    ·rw [zg (zc e hfl)]
     exact s3 _ _ e
    ·rw [zb,jN]
     rfl
    ·rw [List.nodup_append]
     exact ⟨nd3,by simp,fun a ha c hc=>by rw [kl.mp hc];exact fun z=>hg (z▸ha)⟩
    ·rcases kO.mp hz with h | h
     ·exact rb3 z h
     ·rw [kl.mp h]
      exact .step hkr el (kD eg) hb
 ·rintro σ H3 ⟨ks',v4',rfl,s3,h3,nd3,rb3,⟨t,et⟩,hx3⟩
  rw [zD,List.take_length] at hx3
  refine ⟨_,rfl,_,_,rfl,rfl,N.length - (at'+1),by lia,ks',at'+1,v4',rfl,⟨s3,h3,nd3,rb3,?_,fun i k2 l hi e hl j hj=>?_,by rw [et,ki];lia⟩,rfl⟩
  ·exact S.zero.imp (fun h=>by rw [et];simp [h]) id
  ·have eo:ks[i]?=some k2:=by
    rw [et,yc (by lia)] at e
    exact e
   by_cases hi2:i < at'
   ·exact (S.clo i k2 l hi2 eo hl j hj).imp (fun h=>by rw [et];simp [h]) id
   ·have:i=at':=by lia
    subst this
    rw [ek] at eo
    cases eo
    rw [el] at hl
    cases hl
    exact hx3 j hj
end
theorem JI (l:List Nat):nats l=(l.map fun j:Nat=>(j:Int)).map V.int:=by
 unfold nats
 rw [List.map_map]
 rfl
theorem z4l {l:List Nat}:(nats l).isEmpty=l.isEmpty:=by unfold nats;rw [List.isEmpty_map]
theorem z1E {X:Cx} {K:ko} (hK:X.K=K):OpR X (compareOp .In) (rIn K false):=by subst hK;exact qO
theorem QZ {X:Cx} {K:ko} (hK:X.K=K):OpR X (compareOp .NotIn) (rIn K true):=by subst hK;exact qN
section
def z56 (K:ko):Sp:=fun vs H Q _=>∃(a:Addr) (ns:List Int),vs=[.ref a]∧Scr K H a (ns.map V.int)∧ns.length≤1000∧∀t H',Same H H'→H t=none→H' t=some (.lst (qQ 0 ns))→Q (.ref t) H'
theorem sc62:zn ["_law_script"] ["_law_script"] (ze (top 62)):=fsM
theorem z62 (D:zi K mg "_law_town" (top 62)) (G:Glo mg):FN P w K mg base 1 "_law_town" ["_law_script"] (z56 K):=by
 refine FN.o D sc62 fun f cdv A outer s H vs Q E hr h=>?_
 obtain ⟨a,ns,rfl,hS,hn,q⟩:=h
 refine ⟨_,zf (zv (zO z5h (qe (z6 zh z7)) (z2S z04 rfl G.list Zs (z6 (pv 0) z7)))),?_⟩
 refine ⟨by show 1≤sizeLine;decide,fun p hp=>?_⟩
 have sp:=zk hp (.lst [.int 0])
 refine ⟨_,rfl,a,ns.map V.int,rfl,.inl (hS.keep fun o u e=>sp _ _ e).sq,fun l hl=>?_⟩
 have sl:=zk hl (.lst (ns.map V.int))
 have npl:p≠l:=zc (H:=upd H p (.lst [.int 0])) zb hl
 refine ⟨p,l,[.int 0],ns.map V.int,rfl,rfl,sl _ _ zb,zb,?_,fun t ht=>?_⟩
 ·rw [kh,sizeLine_eq]
  show 1+ns.length≤_
  lia
 ·have st:=zk ht (.lst ([.int 0]++ns.map V.int))
  refine q t _ ((sp.trans sl).trans st) ?_ zb
  cases e:H t with
  | none=>rfl
  | some o=>rw [(sp.trans sl) _ _ e] at ht;cases ht
noncomputable abbrev N79:List Str:=["_law_script","_law_town_here","_law_code_here","_law_nexts","_law_told","_law_every","_law_k","_law_due"]
theorem sc79:zn N79 ["_law_script"] (ze (top 79)):=fsM
noncomputable def z7q:Scope:=match (zW (top 79)).getD 6 (.Pass ⟨0,0,0,0⟩) with
 | .For _ _ b _ _=>(match b.getD 0 (.Pass ⟨0,0,0,0⟩) with
  | .If _ _ e _=>(match e.getD 0 (.Pass ⟨0,0,0,0⟩) with
   | .Assign _ (.ListComp _ _ s _) _=>s
   | _=>ze (top 79))
  | _=>ze (top 79))
 | _=>ze (top 79)
noncomputable def cl79 (L:Addr):List (Str × Addr):=[("_law_nexts",L+1),("_law_k",L+1+1+1),("_law_every",L+1+1)]
noncomputable def nm79:List (Str × NameKind):=[(".0",.local),("_law_j",.local),("_law_all",.globalImplicit),("_law_every",.cell),("_law_k",.cell),("_law_nexts",.cell)]
noncomputable abbrev NC79:List Str:=["_law_j","_law_every","_law_k","_law_nexts"]
theorem cs79 {f:Addr} {cdv:Value} {A:Around} {outer:List Env} {s:Shared} {H:Hp} {E:XK}:
  qf (cxOf CX0 P w K mg base N79 "law" (ze (top 79)) f cdv A outer s H E).nox NC79 1 [5,6,3] z7q (cl79 s.heap.objs.size):=
 qf.mk3 (nm:=nm79) (ks:=(cl79 0).map Prod.fst) rfl rfl ⟨by trivial,by trivial⟩ rfl rfl rfl (by trivial) rfl rfl rfl rfl
def z2v (K:ko):Sp:=fun vs H Q _=>∃(a:Addr) (ns:List Int),vs=[.ref a]∧Scr K H a (ns.map V.int)∧ns.length≤63∧∀H',Q (.bl true) H'
theorem z7l {f:Addr} {fd:FuncData} (D:Fun K "law" "law" (top 79) f fd) (G:Glo mg) (FT:FN P w K mg base 1 "_law_town" ["_law_script"] (z56 K)) (FLC:FN P w K mg base 17 "_law_code" ["_law_script","_law_town_here","_law_many"] (Jr K))
  (FL:FN P w K mg base 12 "links" ["code"] (z0j K)) (FM:FN P w K mg base 13 "must" ["code"] (z57 K)) (FA:FN P w K mg base 1 "_law_all" ["_law_nexts","_law_barred"] (z6M K)) (FW:FN P w K mg base 2 "_law_wholes" ["_law_thing"] z0N):FnOk P w K mg base CX0 18 f fd ["_law_script"] (z2v K):=by
 refine D.ok sc79 (fun vs H Q E h=>by obtain ⟨a,ns,rfl,_⟩:=h;rfl) (fun cdv A outer s H vs Q E hr h=>?_)
 obtain ⟨a,ns,rfl,hS,hns,q⟩:=h
 have hr1:=hr.mono (show 1≤17 by decide)
 have hr2:=hr.mono (show 2≤17 by decide)
 have hr12:=hr.mono (show 12≤17 by decide)
 have hr13:=hr.mono (show 13≤17 by decide)
 have hu0:=hr.units0
 have ndc:NC79.Nodup:=by trivial
 refine ⟨_,z8 (zC (i:=1) sc79.nd rfl (Or.inl rfl) (zp FT hr1 rfl (z6 (pv 0) z7)))
  (z8 (zC (i:=2) sc79.nd rfl (Or.inl rfl) (zp FLC hr rfl (z6 (pv 0) (z6 (pv 1) (z6 zh z7)))))
  (z8 (zC (i:=3) sc79.nd rfl (Or.inr rfl) (zp FL hr12 rfl (z6 (pv 2) z7)))
  (z8 (zC (i:=4) sc79.nd rfl (Or.inl rfl) (zp FM hr13 rfl (z6 (pv 2) z7)))
  (z8 (zC (i:=5) sc79.nd rfl (Or.inr rfl) (zp FA hr1 rfl (z6 (pv 3) (z6 (JC ZF zh) z7))))
  (z8 (qg (PW.pt (Qs (zr z1C (zw zx rfl G.len zS (z6 (pv 4) z7)) (zw zx rfl G.len zS (z6 (pv 3) z7)) (zB _)) (Ze (Q8 (je (zw qb rfl G.isinstance zF (z6 (pv 4) (z6 (Qa "list" rfl G.list Zs) z7)))))))) (zf (zv Qc)) zH)
  (z8 (jf PassesOwn.never rfl (qM rfl G.range (z6 (zw zx rfl G.len zS (z6 (pv 3) z7)) z7)) (zu (i:=6) sc79.nd rfl (Or.inr rfl))
   (zf (qg (zr qN (pv 6) (pv 5) rfl)
    (zf (qg (zr (z72 hu0) (qa zK (pv 4) (pv 6) (fun _ _=>rfl)) (qe z7) (zB _)) (zf (zv Qc)) zH))
    (z8 (jp (i:=7) (N:=NC79) (nt:=1) (ix:=[5,6,3]) (cl:=cl79 s.heap.objs.size) rfl sc79.nd rfl (Or.inl rfl) cs79 (qM rfl G.range (z6 (zw zx rfl G.len zS (z6 (pv 3) z7)) z7)) (fun _ _ _ _=>zu (i:=0) ndc rfl (Or.inl rfl))
      (fun _ _ _ _=>Q6 (PW.pt (Qy (zr (z1E (K:=K) rfl) (pv 0) (pv 1) rfl) (Zy (zr (QZ (K:=K) rfl) (pv 2) (zp FA hr1 rfl (z6 (pv 3) (z6 (pv 0) z7))) rfl))))) (fun _ _ _ _=>pv 0))
    (zf (qg (PW.pt (Qs (zr (z71 hu0) (qa zK (pv 4) (pv 6) (fun _ _=>rfl)) (pv 7) (zB _)) (Qs (Q8 (je (zp FW hr2 rfl (z6 (qa zK (pv 4) (pv 6) (fun _ _=>rfl)) z7)))) (Ze (zr qN (pv 6) (qa zK (pv 4) (pv 6) (fun _ _=>rfl)) rfl))))) (zf (zv Qc)) zH))))))
  (zf (zv Qc)))))))),?_⟩
 refine ⟨_,rfl,a,ns,rfl,hS,by lia,fun t H1 s1 ht hT1=>?_⟩
 have hS1:Scr K H1 a (ns.map V.int):=hS.keep fun o u e=>s1 _ _ e
 refine ⟨_,rfl,_,rfl,a,t,ns,0,ns,3,rfl,hS1,by lia,rfl,hT1,by lia,by decide,by decide,fun l as rs k c2 cells2 H2 hl2 hR2 gd hΓ hk hlo hhi hlt hcl2 hT2 hc2 kp2=>?_⟩
 have hC:=gd.code hk hlo (by lia)
 obtain ⟨Sx,TY⟩:=gd.typed hΓ
 obtain ⟨fin,hfin,hfl,_⟩:=z2p TY (by lia)
 refine ⟨_,rfl,l,as,rs,fin,rfl,hl2,hR2,hC,hfin,fun nl nls H3 s3 hnl hn3 hN3 hne3=>?_⟩
 refine ⟨_,rfl,l,as,rs,fin,rfl,s3 _ _ hl2,hR2.same s3,hC,hfin,fun tl tls H4 s4 htl ht4 hM4=>?_⟩
 have gN:=QC (fin:=fin) hC
 clear hl2 hR2 hT2 hT1 hS1 hS kp2 s1 ht
 generalize j5 rs fin=N at gN hN3 hM4
 have hhiN:=gN.hi
 have hn4:=s4 _ _ hn3
 have hN4:=hN3.keep fun a o _ e=>s4 a o e
 have lnN:nls.length=N.length:=Paired.length hN3
 have lnM:tls.length=N.length:=by
  have:=Paired.length hM4
  unfold z4n at this
  simpa using this
 refine ⟨_,rfl,_,rfl,nl,nls,N,none,rfl,hn4,hN4,gN,fun el es H5 s5 hel he5 nde hes=>?_⟩
 have ht5:=s5 _ _ ht4
 have hn5:=s5 _ _ hn4
 have hN5:=hN4.keep fun a o _ e=>s5 a o e
 have hM5:=hM4.keep fun a o _ e=>s5 a o e
 have eslen:es.length≤N.length:=by
  have:=JH (M:=List.range N.length) nde fun x hx=>List.mem_range.mpr (((hes x).mp hx).lt gN.in_ gN.lo)
  rw [List.length_range] at this
  exact this
 have lk:(tls.map V.ref).length=N.length:=by rw [kh,lnM]
 have lk':(nls.map V.ref).length=N.length:=by rw [kh,lnN]
 refine ⟨_,rfl,tl,_,rfl,.inl (SqL.of ht5),_,rfl,nl,_,rfl,.inl (SqL.of hn5),rfl,_,rfl,?_⟩
 rw [lk,lk',kg rfl]
 refine iteF ⟨_,rfl,_,"list",_,true,rfl,.lst ht5,rfl,_,rfl,iteF ?_⟩
 refine ⟨_,rfl,nl,_,rfl,.inl (SqL.of hn5),_,rfl,by lia,by rw [lk'];lia,jj (lo:=0) (n:=(nls.map V.ref).length) (fun i σ H6=>∃(v1 v2 v6 v7:Option V),σ=[some (.ref a),v1,v2,some (.ref nl),some (.ref tl),some (.ref el),v6,v7]∧Same H5 H6) ⟨_,_,none,none,rfl,fun _ _ e=>e⟩ ?_ ?_⟩
 ·rintro i σ H6 hi ⟨v1,v2,v6,v7,rfl,s6⟩
  rw [lk'] at hi
  rw [Int.zero_add]
  have eM:(z4n N)[i]?=some (qc N.length (prB N i)):=by unfold z4n;simp [hi]
  obtain ⟨ta,e1,e2⟩:=hM5.get eM
  have e3:(tls.map V.ref)[i]?=some (.ref ta):=by rw [List.getElem?_map,e1];rfl
  have hrl:(qc N.length (prB N i)).length≤N.length:=qE _ _
  refine qI ⟨_,rfl,_,rfl,el,_,rfl,.inl (SqL.of (s6 _ _ he5)),rfl,jD _,_,rfl,?_⟩
  rw [Zo]
  by_cases hin:i∈es
  case neg=>
   rw [kf hin]
   refine iteT ⟨_,rfl,_,rfl,tl,_,_,_,rfl,rfl,SqL.of (s6 _ _ ht5),zy e3,Nat.zero_le _,fun em hem=>?_⟩
   have s7:=zk hem (.lst [])
   have hemp:qc N.length (prB N i)=[]:=by
    refine List.eq_nil_iff_forall_not_mem.mpr fun x hx=>?_
    exact hin ((hes i).mpr (jy.mp (qk.mp hx).2).1)
   refine ⟨ta,em,_,rfl,rfl,SqL.of (s7 _ _ (s6 _ _ e2)),SqL.of zb,_,rfl,?_⟩
   rw [z4l,hemp]
   exact iteF ⟨_,_,_,_,rfl,s6.trans s7⟩
  case pos=>
   rw [kg hin]
   have hir:=(hes i).mp hin
   refine iteF ⟨_,rfl,nl,_,rfl,.inl (SqL.of (s6 _ _ hn5)),_,rfl,by lia,by rw [lk'];lia,fun dl hdl=>JX (n:=(nls.map V.ref).length) (fun j ys σ H7=>(∃x:Option V,σ=[x,some (.ref el),some (.int (i:Int)),some (.ref nl)])∧ys=nats (qc j (prB N i))∧Same H6 H7∧H7 dl=some (.lst ys)) ⟨⟨none,rfl⟩,rfl,zk hdl _,zb⟩ ?_ ?_⟩
   ·rintro j ys σ H7 hj ⟨⟨x,rfl⟩,rfl,s7,hd7⟩
    rw [lk'] at hj
    have hlj:(nats (qc j (prB N i))).length≤j:=by rw [zD];exact qE _ _
    have s57:=s6.trans s7
    have no:∀H8,Same H6 H8→H8 dl=some (.lst (nats (qc j (prB N i))))→prB N i j=false→∃m',m' < (nls.map V.ref).length - j∧m'=(nls.map V.ref).length - (j+1)∧j+1≤(nls.map V.ref).length∧(∃x:Option V,[some (V.int (j:Int)),some (.ref el),some (.int (i:Int)),some (.ref nl)]=[x,some (.ref el),some (.int (i:Int)),some (.ref nl)])∧nats (qc j (prB N i))=nats (qc (j+1) (prB N i))∧Same H6 H8∧H8 dl=some (.lst (nats (qc j (prB N i)))):=fun H8 s8 hd8 hp=>
     ⟨(nls.map V.ref).length - (j+1),by rw [lk'];lia,rfl,by rw [lk'];lia,⟨_,rfl⟩,by rw [qK,hp];simp,s8,hd8⟩
    refine qI ⟨_,rfl,_,rfl,el,_,rfl,.inl (SqL.of (s57 _ _ he5)),rfl,jD _,_,rfl,?_⟩
    rw [show (if false=true then !inV (V.int (j:Int)) (nats es) else inV (V.int (j:Int)) (nats es))=inV (V.int (j:Int)) (nats es) from rfl,Zo]
    by_cases hje:j∈es
    case neg=>
     rw [kf hje]
     refine iteF (iteF (no H7 s7 hd7 ?_))
     cases hp:prB N i j with
     | false=>rfl
     | true=>exact absurd (Rb.around (fun z=>hje ((hes j).mpr z)) hir) (jy.mp hp).2
    case pos=>
     rw [kg hje]
     refine iteT ⟨_,rfl,_,rfl,_,rfl,nl,nls,N,some j,rfl,s57 _ _ hn5,hN5.keep (fun a o _ e=>s57 _ _ e),gN,fun al bs H8 s8 hal ha8 ndb hbs=>?_⟩
     refine ⟨al,_,rfl,.inl (SqL.of ha8),rfl,jD _,_,rfl,?_⟩
     rw [Zo]
     have s68:=s7.trans s8
     have hd8:=s8 _ _ hd7
     by_cases hib:i∈bs
     ·rw [kg hib]
      refine iteF (no H8 s68 hd8 ?_)
      cases hp:prB N i j with
      | false=>rfl
      | true=>exact absurd ((hbs i).mp hib) (jy.mp hp).2
     ·rw [kf hib]
      have hp:prB N i j=true:=jy.mpr ⟨hir,fun z=>hib ((hbs i).mpr z)⟩
      refine iteT ⟨_,rfl,hd8,q0 (by lia),(nls.map V.ref).length - (j+1),by rw [lk'];lia,rfl,by rw [lk'];lia,⟨_,rfl⟩,by rw [qK,kr hp,jN];rfl,fun b o e=>by rw [zg (zc e hdl)];exact s68 _ _ e,zb⟩
   ·rintro ys σ H7 ⟨_,rfl,s7,hd7⟩
    rw [lk',JI] at hd7
    have s57:=s6.trans s7
    have e2':=s57 _ _ e2
    refine ⟨_,rfl,_,rfl,tl,_,_,_,rfl,rfl,SqL.of (s57 _ _ ht5),zy e3,_,rfl,ta,dl,_,rfl,rfl,SqL.of (by rw [←JI];exact e2'),SqL.of hd7,_,rfl,?_⟩
    refine iteF ⟨_,rfl,_,rfl,tl,_,_,_,rfl,rfl,SqL.of (s57 _ _ ht5),zy e3,ta,_,rfl,e2',by lia,fun H8 s8=>⟨_,rfl,?_⟩⟩
    refine iteF ⟨_,rfl,_,rfl,_,rfl,tl,_,_,_,rfl,rfl,SqL.of (s8 _ _ (s57 _ _ ht5)),zy e3,ta,_,rfl,.inl (SqL.of (s8 _ _ e2')),rfl,jD _,_,rfl,?_⟩
    rw [Zo]
    have hself:i∈qc N.length (prB N i):=qk.mpr ⟨hi,jy.mpr ⟨hir,fun z=>z.ne rfl⟩⟩
    rw [kg hself]
    exact iteF ⟨_,_,_,_,rfl,s57.trans s8⟩
 ·rintro σ H6 ⟨v1,v2,v6,v7,rfl,s6⟩
  exact q H6
end
section
structure Defs (K:ko) (mg:Str→Option Value):Prop where
 d12:zi K mg "is_number" (top 12)
 d13:zi K mg "is_number_within" (top 13)
 d14:zi K mg "is_letters" (top 14)
 d15:zi K mg "is_name" (top 15)
 d16:zi K mg "is_kind" (top 16)
 d17:zi K mg "is_mark" (top 17)
 d18:zi K mg "is_value_within" (top 18)
 d19:zi K mg "is_pushed" (top 19)
 d20:zi K mg "is_copied" (top 20)
 d21:zi K mg "is_swapped_with" (top 21)
 d22:zi K mg "is_none" (top 22)
 d24:zi K mg "is_op" (top 24)
 d25:zi K mg "arg_sort" (top 25)
 d26:zi K mg "arg_fits" (top 26)
 d27:zi K mg "is_row" (top 27)
 d28:zi K mg "label_places" (top 28)
 d29:zi K mg "mark_fits" (top 29)
 d30:zi K mg "first_bad_place" (top 30)
 d31:zi K mg "has_places" (top 31)
 d32:zi K mg "check_code" (top 32)
 d42:zi K mg "uppermost" (top 42)
 d43:zi K mg "depth_asked" (top 43)
 d44:zi K mg "lacks_values" (top 44)
 d45:zi K mg "lacks_guard" (top 45)
 d46:zi K mg "takes_beneath" (top 46)
 d47:zi K mg "moves" (top 47)
 d48:zi K mg "words_lacking" (top 48)
 d49:zi K mg "guards_behind" (top 49)
 d50:zi K mg "next_states" (top 50)
 d51:zi K mg "state_words" (top 51)
 d52:zi K mg "searched" (top 52)
 d53:zi K mg "states" (top 53)
 d55:zi K mg "follows" (top 55)
 d56:zi K mg "begins_block" (top 56)
 d57:zi K mg "parts" (top 57)
 d58:zi K mg "links" (top 58)
 d59:zi K mg "come_to" (top 59)
 d60:zi K mg "must" (top 60)
 d62:zi K mg "_law_town" (top 62)
 d63:zi K mg "_law_draw" (top 63)
 d64:zi K mg "_law_pick" (top 64)
 d65:zi K mg "_law_whole" (top 65)
 d66:zi K mg "_law_wholes" (top 66)
 d67:zi K mg "_law_const" (top 67)
 d69:zi K mg "_law_mark" (top 69)
 d70:zi K mg "_law_value" (top 70)
 d71:zi K mg "_law_tried_value" (top 71)
 d72:zi K mg "_law_moved_value" (top 72)
 d73:zi K mg "_law_deed" (top 73)
 d74:zi K mg "_law_choice" (top 74)
 d75:zi K mg "_law_round" (top 75)
 d76:zi K mg "_law_tried" (top 76)
 d77:zi K mg "_law_code" (top 77)
 d78:zi K mg "_law_all" (top 78)
theorem z4Y {f:Addr} {fd:FuncData} (DL:Fun K "law" "law" (top 79) f fd) (D:Defs K mg) (DP:z0I K mg "_law_put" (top 68)) (G:Glo mg) (T:Tabs w K mg) (T2:z2a w K mg):FnOk P w K mg base CX0 18 f fd ["_law_script"] (z2v K):=by
 have num:=JU (P:=P) (w:=w) (base:=base) D.d12 G
 have qJ:=z3k D.d13 G num
 have jE:=z1W (P:=P) (w:=w) (base:=base) D.d14 G
 have name:=z67 D.d15 G jE
 have kind:=z6b D.d16 G jE
 have mark:=z69 D.d17 G qJ
 have value:=z4D D.d18 G qJ kind
 have pushed:=z3n D.d19 G value
 have copied:=z3o D.d20 qJ
 have swapped:=z1V D.d21 qJ
 have none:=z65 (P:=P) (w:=w) (base:=base) D.d22
 have op:=z87 (P:=P) (base:=base) D.d24 G T
 have sort:=z63 (P:=P) (base:=base) D.d25 T
 have fits:=z6c D.d26 T sort pushed name copied swapped mark none
 have row:=z7i D.d27 G op fits qJ
 have labs:=z6a D.d28 G row
 have mfits:=JT D.d29 sort
 have bad:=z7n D.d30 G row labs mfits
 have has:=z7m (P:=P) (w:=w) (base:=base) D.d31 G
 have check:=z4M D.d32 has bad
 have up:=up2 (z84 (P:=P) (w:=w) (base:=base) D.d42)
 have asked:=z4N (P:=P) (base:=base) D.d43 T2
 have lackV:=z4J D.d44 asked
 have Qj:=z4K (P:=P) (w:=w) (base:=base) D.d45
 have qS:=z1Z D.d46 G asked
 have moves:=z4H D.d47 T2 lackV Qj
 have words:=z4B D.d48 G lackV Qj qS moves
 have gb:=z8a (P:=P) (w:=w) (base:=base) D.d49
 have next:=z66 D.d50 up moves gb
 have sw:=z86 D.d51 up words
 have searched:=z0w D.d52 G T2 labs sw next
 have states:=z3m D.d53 check searched
 have town:=z62 (P:=P) (w:=w) (base:=base) D.d62 G
 have draw:=z6d (P:=P) (w:=w) (base:=base) D.d63 G
 have pick:=z64 D.d64 G draw
 have const:=z4L D.d67 pick
 have put:=z7j (P:=P) (w:=w) (base:=base) DP G
 have mk:=z89 (P:=P) (w:=w) (base:=base) D.d69 G
 have S:jF P w K mg base:=⟨draw,pick,const,put.1,put.2,mk⟩
 have V:=JS D.d70 D.d71 D.d72 G S 3
 have DD:=z1g D.d73 D.d74 D.d75 D.d76 S V 3
 have lcode:=z1X D.d77 G S V DD
 have follows:=z1Y D.d55 G states labs next
 have bb:=z8b (P:=P) (base:=base) D.d56 T2
 have parts:=z4G D.d57 G bb
 have links:=z4I D.d58 G follows parts
 have come:=z6f (P:=P) (w:=w) (base:=base) D.d59
 have must:=z68 D.d60 G links come
 have whole:=z4C (P:=P) (w:=w) (base:=base) D.d65 G
 have wholes:=z3l D.d66 G whole
 have all:=z7o (P:=P) (w:=w) (base:=base) D.d78 G
 exact z7l DL G town lcode links must all wholes
end
def LK (K:ko) (f:Addr) (x q:Str) (st:Stmt):Prop:=∃(oc:Value) (od an:Option Addr) (osl:Array (Option Value)) (kV doc pm cdv ct:Value),K.lookup f=some ⟨oc,od,.func (PySem.W.fnOf x q (qB st) (zW st) (ze st) .none kV doc pm an cdv ct),osl⟩∧PySem.W.codeIn K cdv q=true∧PySem.W.keepIn K (.ref f)=true
theorem lk_mk {K:ko} {f:Addr} {x q:Str} {st:Stmt} {oc:Value} {od an:Option Addr} {osl:Array (Option Value)} {kV doc pm cdv ct:Value} (l:K.lookup f=some ⟨oc,od,.func (PySem.W.fnOf x q (qB st) (zW st) (ze st) .none kV doc pm an cdv ct),osl⟩) (c:PySem.W.codeIn K cdv q=true) (k:PySem.W.keepIn K (.ref f)=true):LK K f x q st:=⟨_,_,_,_,_,_,_,_,_,l,c,k⟩
theorem zM {K:ko} {h:Heap} {mg:Str→Option Value} {x:Str} {st:Stmt} {f:Addr} (X:K.In h) (G:h.Ns mainGlobals mg) (a:PySem.W.nsIn K mainGlobals x=some (some (.ref f))) (l:LK K f x x st):zi K mg x st:=by
 obtain ⟨_,_,_,_,_,_,_,_,_,l,c,k⟩:=l
 exact ⟨f,_,z5l l c k,kj X G a⟩
theorem z1N {K:ko} {a:Addr} {xs:List V} {o:Obj} {its:Array Value} {n:Nat} (l:K.lookup a=some o) (c:o.cls=.type "tuple") (d:o.data=.seq its n) (v:Vals xs its.toList) (z:xs.length≤1000):KTup K a xs:=
 ⟨o,its,n,l,c,d,by have h1:xs.length=its.toList.length:=v.length;have h2:its.toList.length=its.size:=Array.length_toList;exact z2y (by lia),v⟩
theorem all_mk {l:PySem.W.OpenLaw} {w:World} {K:ko} {h:Heap} {mg:Str→Option Value} {fa T68 gfirst:Addr} {to68:Obj} {n68:Nat} (X:K.In h) (G:h.Ns mainGlobals mg) (hfa:mg "law"=some (.ref fa))
  {f12 f13 f14 f15 f16 f17 f18 f19 f20 f21 f22 f24 f25 f26 f27 f28 f29 f30 f31 f32 f42 f43 f44 f45 f46 f47 f48 f49 f50 f51 f52 f53 f55 f56 f57 f58 f59 f60 f62 f63 f64 f65 f66 f67 f69 f70 f71 f72 f73 f74 f75 f76 f77 f78 f79 f68:Addr} {od68 an68:Option Addr} {sl68:Array (Option Value)} {oc68 kV68 dc68 pm68 cd68 ct68:Value}
  {asorts':Addr} {esorts:Array DictEntry} {nsorts:Nat}
  {atests':Addr} {etests:Array DictEntry} {ntests:Nat}
  {atakes':Addr} {etakes:Array DictEntry} {ntakes:Nat}
  {apushes':Addr} {epushes:Array DictEntry} {npushes:Nat}
  {agput':Addr} {egput:Array DictEntry} {ngput:Nat}
  {tjumping:Addr} {ojumping:Obj} {ijumping:Array Value} {njumping:Nat}
  {tleaving:Addr} {oleaving:Obj} {ileaving:Array Value} {nleaving:Nat}
  {tnever:Addr} {onever:Obj} {inever:Array Value} {nnever:Nat}
  {tfaulting:Addr} {ofaulting:Obj} {ifaulting:Array Value} {nfaulting:Nat}
  {tfirst:Addr} {ofirst:Obj} {ifirst:Array Value} {nfirst:Nat}
{ogfirst:Obj} {igfirst:Array Value} {ngfirst:Nat}
  {urows:Value} {uline:Value} {umark:Value} {upushed:Value} {uname:Value} {ukind:Value}
  (a12:PySem.W.nsIn K mainGlobals "is_number"=some (some (.ref f12)))
  (l12:LK K f12 "is_number" "is_number" (top 12))
  (a13:PySem.W.nsIn K mainGlobals "is_number_within"=some (some (.ref f13)))
  (l13:LK K f13 "is_number_within" "is_number_within" (top 13))
  (a14:PySem.W.nsIn K mainGlobals "is_letters"=some (some (.ref f14)))
  (l14:LK K f14 "is_letters" "is_letters" (top 14))
  (a15:PySem.W.nsIn K mainGlobals "is_name"=some (some (.ref f15)))
  (l15:LK K f15 "is_name" "is_name" (top 15))
  (a16:PySem.W.nsIn K mainGlobals "is_kind"=some (some (.ref f16)))
  (l16:LK K f16 "is_kind" "is_kind" (top 16))
  (a17:PySem.W.nsIn K mainGlobals "is_mark"=some (some (.ref f17)))
  (l17:LK K f17 "is_mark" "is_mark" (top 17))
  (a18:PySem.W.nsIn K mainGlobals "is_value_within"=some (some (.ref f18)))
  (l18:LK K f18 "is_value_within" "is_value_within" (top 18))
  (a19:PySem.W.nsIn K mainGlobals "is_pushed"=some (some (.ref f19)))
  (l19:LK K f19 "is_pushed" "is_pushed" (top 19))
  (a20:PySem.W.nsIn K mainGlobals "is_copied"=some (some (.ref f20)))
  (l20:LK K f20 "is_copied" "is_copied" (top 20))
  (a21:PySem.W.nsIn K mainGlobals "is_swapped_with"=some (some (.ref f21)))
  (l21:LK K f21 "is_swapped_with" "is_swapped_with" (top 21))
  (a22:PySem.W.nsIn K mainGlobals "is_none"=some (some (.ref f22)))
  (l22:LK K f22 "is_none" "is_none" (top 22))
  (a24:PySem.W.nsIn K mainGlobals "is_op"=some (some (.ref f24)))
  (l24:LK K f24 "is_op" "is_op" (top 24))
  (a25:PySem.W.nsIn K mainGlobals "arg_sort"=some (some (.ref f25)))
  (l25:LK K f25 "arg_sort" "arg_sort" (top 25))
  (a26:PySem.W.nsIn K mainGlobals "arg_fits"=some (some (.ref f26)))
  (l26:LK K f26 "arg_fits" "arg_fits" (top 26))
  (a27:PySem.W.nsIn K mainGlobals "is_row"=some (some (.ref f27)))
  (l27:LK K f27 "is_row" "is_row" (top 27))
  (a28:PySem.W.nsIn K mainGlobals "label_places"=some (some (.ref f28)))
  (l28:LK K f28 "label_places" "label_places" (top 28))
  (a29:PySem.W.nsIn K mainGlobals "mark_fits"=some (some (.ref f29)))
  (l29:LK K f29 "mark_fits" "mark_fits" (top 29))
  (a30:PySem.W.nsIn K mainGlobals "first_bad_place"=some (some (.ref f30)))
  (l30:LK K f30 "first_bad_place" "first_bad_place" (top 30))
  (a31:PySem.W.nsIn K mainGlobals "has_places"=some (some (.ref f31)))
  (l31:LK K f31 "has_places" "has_places" (top 31))
  (a32:PySem.W.nsIn K mainGlobals "check_code"=some (some (.ref f32)))
  (l32:LK K f32 "check_code" "check_code" (top 32))
  (a42:PySem.W.nsIn K mainGlobals "uppermost"=some (some (.ref f42)))
  (l42:LK K f42 "uppermost" "uppermost" (top 42))
  (a43:PySem.W.nsIn K mainGlobals "depth_asked"=some (some (.ref f43)))
  (l43:LK K f43 "depth_asked" "depth_asked" (top 43))
  (a44:PySem.W.nsIn K mainGlobals "lacks_values"=some (some (.ref f44)))
  (l44:LK K f44 "lacks_values" "lacks_values" (top 44))
  (a45:PySem.W.nsIn K mainGlobals "lacks_guard"=some (some (.ref f45)))
  (l45:LK K f45 "lacks_guard" "lacks_guard" (top 45))
  (a46:PySem.W.nsIn K mainGlobals "takes_beneath"=some (some (.ref f46)))
  (l46:LK K f46 "takes_beneath" "takes_beneath" (top 46))
  (a47:PySem.W.nsIn K mainGlobals "moves"=some (some (.ref f47)))
  (l47:LK K f47 "moves" "moves" (top 47))
  (a48:PySem.W.nsIn K mainGlobals "words_lacking"=some (some (.ref f48)))
  (l48:LK K f48 "words_lacking" "words_lacking" (top 48))
  (a49:PySem.W.nsIn K mainGlobals "guards_behind"=some (some (.ref f49)))
  (l49:LK K f49 "guards_behind" "guards_behind" (top 49))
  (a50:PySem.W.nsIn K mainGlobals "next_states"=some (some (.ref f50)))
  (l50:LK K f50 "next_states" "next_states" (top 50))
  (a51:PySem.W.nsIn K mainGlobals "state_words"=some (some (.ref f51)))
  (l51:LK K f51 "state_words" "state_words" (top 51))
  (a52:PySem.W.nsIn K mainGlobals "searched"=some (some (.ref f52)))
  (l52:LK K f52 "searched" "searched" (top 52))
  (a53:PySem.W.nsIn K mainGlobals "states"=some (some (.ref f53)))
  (l53:LK K f53 "states" "states" (top 53))
  (a55:PySem.W.nsIn K mainGlobals "follows"=some (some (.ref f55)))
  (l55:LK K f55 "follows" "follows" (top 55))
  (a56:PySem.W.nsIn K mainGlobals "begins_block"=some (some (.ref f56)))
  (l56:LK K f56 "begins_block" "begins_block" (top 56))
  (a57:PySem.W.nsIn K mainGlobals "parts"=some (some (.ref f57)))
  (l57:LK K f57 "parts" "parts" (top 57))
  (a58:PySem.W.nsIn K mainGlobals "links"=some (some (.ref f58)))
  (l58:LK K f58 "links" "links" (top 58))
  (a59:PySem.W.nsIn K mainGlobals "come_to"=some (some (.ref f59)))
  (l59:LK K f59 "come_to" "come_to" (top 59))
  (a60:PySem.W.nsIn K mainGlobals "must"=some (some (.ref f60)))
  (l60:LK K f60 "must" "must" (top 60))
  (a62:PySem.W.nsIn K mainGlobals "_law_town"=some (some (.ref f62)))
  (l62:LK K f62 "_law_town" "_law_town" (top 62))
  (a63:PySem.W.nsIn K mainGlobals "_law_draw"=some (some (.ref f63)))
  (l63:LK K f63 "_law_draw" "_law_draw" (top 63))
  (a64:PySem.W.nsIn K mainGlobals "_law_pick"=some (some (.ref f64)))
  (l64:LK K f64 "_law_pick" "_law_pick" (top 64))
  (a65:PySem.W.nsIn K mainGlobals "_law_whole"=some (some (.ref f65)))
  (l65:LK K f65 "_law_whole" "_law_whole" (top 65))
  (a66:PySem.W.nsIn K mainGlobals "_law_wholes"=some (some (.ref f66)))
  (l66:LK K f66 "_law_wholes" "_law_wholes" (top 66))
  (a67:PySem.W.nsIn K mainGlobals "_law_const"=some (some (.ref f67)))
  (l67:LK K f67 "_law_const" "_law_const" (top 67))
  (a69:PySem.W.nsIn K mainGlobals "_law_mark"=some (some (.ref f69)))
  (l69:LK K f69 "_law_mark" "_law_mark" (top 69))
  (a70:PySem.W.nsIn K mainGlobals "_law_value"=some (some (.ref f70)))
  (l70:LK K f70 "_law_value" "_law_value" (top 70))
  (a71:PySem.W.nsIn K mainGlobals "_law_tried_value"=some (some (.ref f71)))
  (l71:LK K f71 "_law_tried_value" "_law_tried_value" (top 71))
  (a72:PySem.W.nsIn K mainGlobals "_law_moved_value"=some (some (.ref f72)))
  (l72:LK K f72 "_law_moved_value" "_law_moved_value" (top 72))
  (a73:PySem.W.nsIn K mainGlobals "_law_deed"=some (some (.ref f73)))
  (l73:LK K f73 "_law_deed" "_law_deed" (top 73))
  (a74:PySem.W.nsIn K mainGlobals "_law_choice"=some (some (.ref f74)))
  (l74:LK K f74 "_law_choice" "_law_choice" (top 74))
  (a75:PySem.W.nsIn K mainGlobals "_law_round"=some (some (.ref f75)))
  (l75:LK K f75 "_law_round" "_law_round" (top 75))
  (a76:PySem.W.nsIn K mainGlobals "_law_tried"=some (some (.ref f76)))
  (l76:LK K f76 "_law_tried" "_law_tried" (top 76))
  (a77:PySem.W.nsIn K mainGlobals "_law_code"=some (some (.ref f77)))
  (l77:LK K f77 "_law_code" "_law_code" (top 77))
  (a78:PySem.W.nsIn K mainGlobals "_law_all"=some (some (.ref f78)))
  (l78:LK K f78 "_law_all" "_law_all" (top 78))
  (a79:PySem.W.nsIn K mainGlobals "law"=some (some (.ref f79)))
  (l79:LK K f79 "law" "law" (top 79))
  (a68:PySem.W.nsIn K mainGlobals "_law_put"=some (some (.ref f68)))
  (l68:K.lookup f68=some ⟨oc68,od68,.func (PySem.W.fnOf "_law_put" "_law_put" (qB (top 68)) (zW (top 68)) (ze (top 68)) (.ref T68) kV68 dc68 pm68 an68 cd68 ct68),sl68⟩)
  (c68:PySem.W.codeIn K cd68 "_law_put"=true)
  (k68:PySem.W.keepIn K (.ref f68)=true)
  (t68:K.lookup T68=some to68)
  (s68:to68.data=.seq #[Value.none] n68)
  (z_isinstance:PySem.W.nsIn K mainGlobals "isinstance"=some none)
  (z_int:PySem.W.nsIn K mainGlobals "int"=some none)
  (z_bool:PySem.W.nsIn K mainGlobals "bool"=some none)
  (z_str:PySem.W.nsIn K mainGlobals "str"=some none)
  (z_tuple:PySem.W.nsIn K mainGlobals "tuple"=some none)
  (z_list:PySem.W.nsIn K mainGlobals "list"=some none)
  (z_len:PySem.W.nsIn K mainGlobals "len"=some none)
  (z_range:PySem.W.nsIn K mainGlobals "range"=some none)
  (z_enumerate:PySem.W.nsIn K mainGlobals "enumerate"=some none)
  (z_all:PySem.W.nsIn K mainGlobals "all"=some none)
  (z_max:PySem.W.nsIn K mainGlobals "max"=some none)
  (z_min:PySem.W.nsIn K mainGlobals "min"=some none)
  (z_sorted:PySem.W.nsIn K mainGlobals "sorted"=some none)
  (z_zip:PySem.W.nsIn K mainGlobals "zip"=some none)
  (q_rows:PySem.W.nsIn K mainGlobals "MOST_ROWS"=some (some urows))
  (r_rows:RelV (.int 150) urows)
  (q_line:PySem.W.nsIn K mainGlobals "MOST_LINE"=some (some uline))
  (r_line:RelV (.int 9999) uline)
  (q_mark:PySem.W.nsIn K mainGlobals "MOST_MARK"=some (some umark))
  (r_mark:RelV (.int 99) umark)
  (q_pushed:PySem.W.nsIn K mainGlobals "MOST_PUSHED"=some (some upushed))
  (r_pushed:RelV (.int 1000000000) upushed)
  (q_name:PySem.W.nsIn K mainGlobals "LONGEST_NAME"=some (some uname))
  (r_name:RelV (.int 4) uname)
  (q_kind:PySem.W.nsIn K mainGlobals "LONGEST_KIND"=some (some ukind))
  (r_kind:RelV (.int 8) ukind)
  (ta_sorts:PySem.W.nsIn K mainGlobals "ARG_SORTS"=some (some (.ref asorts')))
  (tl_sorts:K.lookup asorts'=some ⟨.type "dict",none,.dict esorts nsorts,#[]⟩)
  (tk_sorts:PySem.W.KeysLit w.params esorts.toList)
  (tm_sorts:(asorts' == sysModules)=false)
  (tp_sorts:Paired (fun (p:Str × V) (e:DictEntry)=>(∃t,e.key=.str p.1 t)∧RelV p.2 e.val) z2x esorts.toList)
  (ta_tests:PySem.W.nsIn K mainGlobals "ARG_TESTS"=some (some (.ref atests')))
  (tl_tests:K.lookup atests'=some ⟨.type "dict",none,.dict etests ntests,#[]⟩)
  (tk_tests:PySem.W.KeysLit w.params etests.toList)
  (tm_tests:(atests' == sysModules)=false)
  (tp_tests:Paired (fun (p:Str × V) (e:DictEntry)=>(∃t,e.key=.str p.1 t)∧RelV p.2 e.val) [("value",.ref f19),("name",.ref f15),("copied",.ref f20),("swapped",.ref f21),("mark",.ref f17),("none",.ref f22)] etests.toList)
  (ta_takes:PySem.W.nsIn K mainGlobals "TAKES"=some (some (.ref atakes')))
  (tl_takes:K.lookup atakes'=some ⟨.type "dict",none,.dict etakes ntakes,#[]⟩)
  (tk_takes:PySem.W.KeysLit w.params etakes.toList)
  (tm_takes:(atakes' == sysModules)=false)
  (tp_takes:Paired (fun (p:Str × V) (e:DictEntry)=>(∃t,e.key=.str p.1 t)∧RelV p.2 e.val) (JP j8) etakes.toList)
  (ta_pushes:PySem.W.nsIn K mainGlobals "PUSHES"=some (some (.ref apushes')))
  (tl_pushes:K.lookup apushes'=some ⟨.type "dict",none,.dict epushes npushes,#[]⟩)
  (tk_pushes:PySem.W.KeysLit w.params epushes.toList)
  (tm_pushes:(apushes' == sysModules)=false)
  (tp_pushes:Paired (fun (p:Str × V) (e:DictEntry)=>(∃t,e.key=.str p.1 t)∧RelV p.2 e.val) (JP qX) epushes.toList)
  (ta_gput:PySem.W.nsIn K mainGlobals "GUARDS_PUT"=some (some (.ref agput')))
  (tl_gput:K.lookup agput'=some ⟨.type "dict",none,.dict egput ngput,#[]⟩)
  (tk_gput:PySem.W.KeysLit w.params egput.toList)
  (tm_gput:(agput' == sysModules)=false)
  (tp_gput:Paired (fun (p:Str × V) (e:DictEntry)=>(∃t,e.key=.str p.1 t)∧RelV p.2 e.val) (JP qu) egput.toList)
  (ua_jumping:PySem.W.nsIn K mainGlobals "JUMPING"=some (some (.ref tjumping)))
  (ul_jumping:K.lookup tjumping=some ojumping)
  (uc_jumping:ojumping.cls=.type "tuple")
  (ud_jumping:ojumping.data=.seq ijumping njumping)
  (uv_jumping:Vals (jumping.map V.str) ijumping.toList)
  (ua_leaving:PySem.W.nsIn K mainGlobals "LEAVING"=some (some (.ref tleaving)))
  (ul_leaving:K.lookup tleaving=some oleaving)
  (uc_leaving:oleaving.cls=.type "tuple")
  (ud_leaving:oleaving.data=.seq ileaving nleaving)
  (uv_leaving:Vals (leaving.map V.str) ileaving.toList)
  (ua_never:PySem.W.nsIn K mainGlobals "NEVER_ON"=some (some (.ref tnever)))
  (ul_never:K.lookup tnever=some onever)
  (uc_never:onever.cls=.type "tuple")
  (ud_never:onever.data=.seq inever nnever)
  (uv_never:Vals (qF.map V.str) inever.toList)
  (ua_faulting:PySem.W.nsIn K mainGlobals "FAULTING"=some (some (.ref tfaulting)))
  (ul_faulting:K.lookup tfaulting=some ofaulting)
  (uc_faulting:ofaulting.cls=.type "tuple")
  (ud_faulting:ofaulting.data=.seq ifaulting nfaulting)
  (uv_faulting:Vals (faulting.map V.str) ifaulting.toList)
  (ua_first:PySem.W.nsIn K mainGlobals "FIRST_STATE"=some (some (.ref tfirst)))
  (ul_first:K.lookup tfirst=some ofirst)
  (uc_first:ofirst.cls=.type "tuple")
  (ud_first:ofirst.data=.seq ifirst nfirst)
  (uv_first:Vals [.int 0,.ref gfirst] ifirst.toList)
  (ul_gfirst:K.lookup gfirst=some ogfirst)
  (uc_gfirst:ogfirst.cls=.type "tuple")
  (ud_gfirst:ogfirst.data=.seq igfirst ngfirst)
  (uv_gfirst:Vals [] igfirst.toList)
  :∃fd:FuncData,(∀(s:Shared) (v:Value),BindsTo s fd ⟨[v],[]⟩ [("_law_script",v)])∧∀base:Heap,K.In base→base.Ns mainGlobals mg→FnOk l.prog w K mg base CX0 18 fa fd ["_law_script"] (z2v K):=by
 have e:=hfa.symm.trans (kj X G a79)
 cases e
 have D:Defs K mg:=⟨zM X G a12 l12,zM X G a13 l13,zM X G a14 l14,zM X G a15 l15,zM X G a16 l16,zM X G a17 l17,zM X G a18 l18,zM X G a19 l19,zM X G a20 l20,zM X G a21 l21,zM X G a22 l22,zM X G a24 l24,zM X G a25 l25,zM X G a26 l26,zM X G a27 l27,zM X G a28 l28,zM X G a29 l29,zM X G a30 l30,zM X G a31 l31,zM X G a32 l32,zM X G a42 l42,zM X G a43 l43,zM X G a44 l44,zM X G a45 l45,zM X G a46 l46,zM X G a47 l47,zM X G a48 l48,zM X G a49 l49,zM X G a50 l50,zM X G a51 l51,zM X G a52 l52,zM X G a53 l53,zM X G a55 l55,zM X G a56 l56,zM X G a57 l57,zM X G a58 l58,zM X G a59 l59,zM X G a60 l60,zM X G a62 l62,zM X G a63 l63,zM X G a64 l64,zM X G a65 l65,zM X G a66 l66,zM X G a67 l67,zM X G a69 l69,zM X G a70 l70,zM X G a71 l71,zM X G a72 l72,zM X G a73 l73,zM X G a74 l74,zM X G a75 l75,zM X G a76 l76,zM X G a77 l77,zM X G a78 l78⟩
 have DP:z0I K mg "_law_put" (top 68):=⟨f68,T68,oc68,kV68,dc68,pm68,cd68,ct68,od68,an68,sl68,to68,n68,kj X G a68,k68,l68,c68,t68,s68⟩
 have GG:Glo mg:=⟨PySem.W.mg_none_of X G z_isinstance,PySem.W.mg_none_of X G z_int,PySem.W.mg_none_of X G z_bool,PySem.W.mg_none_of X G z_str,PySem.W.mg_none_of X G z_tuple,PySem.W.mg_none_of X G z_list,PySem.W.mg_none_of X G z_len,PySem.W.mg_none_of X G z_range,PySem.W.mg_none_of X G z_enumerate,⟨_,kj X G q_rows,r_rows⟩,⟨_,kj X G q_line,r_line⟩,⟨_,kj X G q_mark,r_mark⟩,⟨_,kj X G q_pushed,r_pushed⟩,⟨_,kj X G q_name,r_name⟩,⟨_,kj X G q_kind,r_kind⟩,PySem.W.mg_none_of X G z_all,PySem.W.mg_none_of X G z_max,PySem.W.mg_none_of X G z_min,PySem.W.mg_none_of X G z_sorted,PySem.W.mg_none_of X G z_zip⟩
 have TT:Tabs w K mg:=⟨⟨asorts',kj X G ta_sorts,esorts,nsorts,tl_sorts,tk_sorts,tm_sorts,tp_sorts⟩,⟨atests',f19,f15,f20,f21,f17,f22,kj X G ta_tests,⟨etests,ntests,tl_tests,tk_tests,tm_tests,tp_tests⟩,kj X G a19,kj X G a15,kj X G a20,kj X G a21,kj X G a17,kj X G a22⟩⟩
 have T2:z2a w K mg:=⟨⟨atakes',kj X G ta_takes,etakes,ntakes,tl_takes,tk_takes,tm_takes,tp_takes⟩,⟨apushes',kj X G ta_pushes,epushes,npushes,tl_pushes,tk_pushes,tm_pushes,tp_pushes⟩,⟨agput',kj X G ta_gput,egput,ngput,tl_gput,tk_gput,tm_gput,tp_gput⟩,⟨tjumping,kj X G ua_jumping,z1N ul_jumping uc_jumping ud_jumping uv_jumping (by decide)⟩,⟨tleaving,kj X G ua_leaving,z1N ul_leaving uc_leaving ud_leaving uv_leaving (by decide)⟩,⟨tnever,kj X G ua_never,z1N ul_never uc_never ud_never uv_never (by decide)⟩,⟨tfaulting,kj X G ua_faulting,z1N ul_faulting uc_faulting ud_faulting uv_faulting (by decide)⟩,⟨tfirst,gfirst,kj X G ua_first,z1N ul_first uc_first ud_first uv_first (by show 2≤1000;decide),z1N ul_gfirst uc_gfirst ud_gfirst uv_gfirst (by decide)⟩⟩
 obtain ⟨_,_,an,_,kV,dc,pm,cd,ct,l,c,k⟩:=l79
 refine ⟨PySem.W.fnOf "law" "law" (qB (top 79)) (zW (top 79)) (ze (top 79)) .none kV dc pm an cd ct,fun s v=>.of_eq rfl,fun base _ _=>?_⟩
 exact z4Y (base:=base) (z5l (st:=top 79) l c k) D DP GG TT T2
theorem z6O {K:ko} {H:Hp} {a:Addr} {xs:List V} (hO:Only H) (h:SqL K H a xs):Scr K H a xs:=by
 rcases h with h | h
 ·rcases h with h | ⟨o,h⟩
  ·rcases hO a with z | ⟨o,ys,z⟩
   ·rw [z] at h;cases h
   ·rw [z] at h;cases h
  ·exact .inl ⟨o,h⟩
 ·exact .inr h
theorem walk {l:PySem.W.OpenLaw} {q:Program} {loose:List Str} {XP:(Str→Option Value)→Heap→Prop} {YP:World→Heap→Prop} {d:DefRec} {K:Params→ko} (hn:l.most=some 63) (hdf:d.params.defaults=[])
  (hY:∀(w:World) (h:Heap),YP w h→(K w.params).In h)
  (F:∀(w:World) (mg:Str→Option Value) (fa:Addr) (h:Heap),(K w.params).In h→h.Ns mainGlobals mg→mg d.name=some (.ref fa)→
   ∃fd:FuncData,(∀(s:Shared) (u:Value),BindsTo s fd ⟨[u],[]⟩ [("_law_script",u)])∧∀base:Heap,(K w.params).In base→base.Ns mainGlobals mg→FnOk l.prog w (K w.params) mg base CX0 18 fa fd ["_law_script"] (z2v (K w.params))):
  PySem.W.WalkO q loose XP YP l.row.toRowW d [] (fun f vs=>PySem.call f vs):=
 L2.z5t (n:=63) (k:=18) (x:="_law_script") (CX:=fun _=>CX0) (sp:=fun w=>z2v (K w.params)) hn (by decide) hdf ⟨rfl,by decide,by decide,rfl⟩ hY F (fun _ _ a ns hl hO hS=>⟨a,ns,rfl,z6O hO hS,hl,fun _=>rfl⟩) fun _ _ _ _ _ z=>z
end My
namespace PySem.W.Fast
def tw5105673956185107153:=Prop
def tw9296360433889664002:=Prop
def tw9497945907656264259:=Prop
def tw316514102143019080:=Prop
def tw1176975735165151067:=Prop
def tw9515242367644423802:=Prop
def tw13698048360955963301:=Prop
def tw10426125643436316091:=Prop
def tw10199354318988768051:=Prop
def tw6397798872860733234:=Prop
def tw14869557710840242666:=Prop
def tw13402640891724300857:=Prop
def tw17643754061406199020:=Prop
def tw11187973929812520656:=Prop
def tw4584130408075211490:=Prop
def tw10667965978278278033:=Prop
def tw9601000219436670146:=Prop
def tw15452572443179084588:=Prop
def tw9156678896304099913:=Prop
def tw15886500619415505586:=Prop
def tw3520363519792060846:=Prop
def tw12048056826642495367:=Prop
def tw4419873286371483742:=Prop
def tw4491058772748593153:=Prop
def tw12298059772915329892:=Prop
def tw13436231055378572716:=Prop
def tw15221209806709932071:=Prop
def tw11930311979851757478:=Prop
def tw12798869161161681673:=Prop
def tw10209164474934016114:=Prop
def tw9774394379856643515:=Prop
def tw2257529940240947247:=Prop
def tw12533650973541477374:=Prop
def tw9840342860782594374:=Prop
def tw16002967266952078866:=Prop
def tw7523194637212750777:=Prop
def tw4361700775904427359:=Prop
def tw7498633149979677338:=Prop
def tw3092117133297227249:=Prop
def tw10299302589577801163:=Prop
def tw15515405784836723652:=Prop
def tw9563574807059059695:=Prop
def tw17624731456758155189:=Prop
def tw11519117686961666697:=Prop
def tw2947586027576077979:=Prop
def tw16932301668260661676:=Prop
def tw4157206338815638501:=Prop
def tw11630328935867623959:=Prop
def tw5587826856885255690:=Prop
def tw1349388230604553621:=Prop
def tw16915470645016011554:=Prop
def tw16472409268878238316:=Prop
def tw10700183255674453818:=Prop
def tw8164005668110941744:=Prop
def tw13426244417702134072:=Prop
def tw742405457713269000:=Prop
def tw234749781942434899:=Prop
def tw529536973988259948:=Prop
def tw1906743188756502811:=Prop
def tw7875376050956498882:=Prop
def tw8426798971799828003:=Prop
def tw10335527622381539264:=Prop
def tw14501001857826371202:=Prop
def tw17925384258215065573:=Prop
def tw4026151001005817321:=Prop
def tw5030944203280556702:=Prop
def tw7328447075739424539:=Prop
def tw16798657068305975370:=Prop
def tw16131593051203169754:=Prop
def tw8933567498414919238:=Prop
def tw7492102371377302679:=Prop
def tw5312734613080425828:=Prop
def tw17849293660312457548:=Prop
def tw12018387782679925087:=Prop
def tw16745343075639119971:=Prop
def tw16749348522385944071:=Prop
def tw10654377181405492472:=Prop
def tw69414778264802052:=Prop
def tw16550838102048051623:=Prop
def tw7537285074954141530:=Prop
def tw7215932318001415403:=Prop
def tw12300527617525357084:=Prop
def tw734138898119960010:=Prop
def tw16950569574821323974:=Prop
def tw3172541193896328996:=Prop
def tw4843473975253519250:=Prop
def tw16172578528114110199:=Prop
def tw8789256864460932259:=Prop
def tw12673549619886724666:=Prop
def tw5388663596951873645:=Prop
def tw11849525312028181438:=Prop
def tw10785849952161257653:=Prop
def tw15943592676296772274:=Prop
def tw1268874458988922593:=Prop
def tw7317576523658780031:=Prop
def tw16317983856663788926:=Prop
def tw17312996333117680517:=Prop
def tw4248988804066548162:=Prop
def tw15431481666456513963:=Prop
def tw7363425622247834253:=Prop
def tw17910397783013725602:=Prop
def tw12408833816929623880:=Prop
def tw12941643214049860704:=Prop
def tw13056512690104125533:=Prop
def tw8934421753687110507:=Prop
def tw4203021270051977171:=Prop
def tw11418939547134857076:=Prop
def tw3094701115853657799:=Prop
def tw16279701975793424917:=Prop
def tw4179031660912777645:=Prop
def tw305048472116853797:=Prop
def tw804092199982636349:=Prop
def tw15508019666092448443:=Prop
def tw13829591483307370896:=Prop
def tw17969941481158815411:=Prop
def tw16469568281967520401:=Prop
def tw15213048550514571353:=Prop
def tw17427895641331663283:=Prop
def tw17334881123488906936:=Prop
def tw1165732905965986049:=Prop
def tw4033379813872489195:=Prop
def tw14712817762504950641:=Prop
def tw8903238766108814736:=Prop
def tw539595736760451978:=Prop
def tw16149030986926176842:=Prop
def tw11622863634709415212:=Prop
def tw13478877428745155630:=Prop
def tw1820406046763328738:=Prop
def tw8436589768386056944:=Prop
def tw3103751414666246812:=Prop
def tw10097012582147076362:=Prop
def tw1147522009701800784:=Prop
def tw17721039672839981703:=Prop
def tw112567504061534027:=Prop
def tw9455475090630465045:=Prop
def tw17004574920194074796:=Prop
def tw7825248364748044718:=Prop
def tw17845374550828520631:=Prop
def tw17619882183920601743:=Prop
def tw14439765378166140033:=Prop
def tw8454840944936950519:=Prop
def tw18221076124747093969:=Prop
def tw10752687858943698738:=Prop
def tw17601101962401091345:=Prop
def tw16629561534657121264:=Prop
def tw14864845329073380503:=Prop
def tw7586693836618795562:=Prop
def tw13782183185952864739:=Prop
def tw16118103595353321548:=Prop
def tw11712190458185945011:=Prop
def tw10746989603658154836:=Prop
def tw12976177241038019767:=Prop
def tw13231743877010270464:=Prop
def tw14566440943485919492:=Prop
def tw14374603453287560736:=Prop
def tw15069716523494295500:=Prop
def tw14678158920106854735:=Prop
def tw14790834132378566595:=Prop
def tw8839083969933755074:=Prop
def tw17546005709695080877:=Prop
def tw5488966160659634681:=Prop
def tw2294854397974045510:=Prop
def tw12221415409051222339:=Prop
def tw9685044298169568939:=Prop
def tw15845117809764550140:=Prop
def tw6664951462986138201:=Prop
def tw12532165626772418067:=Prop
def tw3241244739717862871:=Prop
def tw15679247252792206210:=Prop
def tw8160871880118814707:=Prop
def tw6951939212644042833:=Prop
def tw7805864855692585105:=Prop
def tw9715166753854553471:=Prop
def tw15431134087688302020:=Prop
def tw9897558803702562313:=Prop
def tw10315103398284666601:=Prop
def tw9508736203920968164:=Prop
def tw5759927347364260171:=Prop
def tw6585068141940680455:=Prop
def tw11990459337992974956:=Prop
def tw5036445103931068615:=Prop
def tw517312751163448032:=Prop
def tw10780761586765376359:=Prop
def tw11732214188671553305:=Prop
def tw13792483299354683862:=Prop
def tw6834397320308548248:=Prop
def tw4954584648838934644:=Prop
def tw3482820431698744051:=Prop
def tw11002848052431835627:=Prop
def tw6737687440995333003:=Prop
def tw11289143093466461953:=Prop
def tw16919330064296535691:=Prop
def tw13989995598129119793:=Prop
def tw9516800180062724845:=Prop
def tw1948689806639624469:=Prop
def tw2852278927748849453:=Prop
def tw10390157646234782899:=Prop
def tw10042499479572932358:=Prop
def tw6731276024794131016:=Prop
def tw17996964024917085871:=Prop
def tw3992908553847606798:=Prop
def tw7042659310547366237:=Prop
def tw17857563459279650048:=Prop
def tw4211952112222678748:=Prop
def tw7388713464098733815:=Prop
def tw12434779806091606683:=Prop
def tw14495299557687959983:=Prop
def tw5353813085845620550:=Prop
def tw12184380411685104690:=Prop
def tw4475145619620083286:=Prop
def tw15724745641170818534:=Prop
def tw5485572742587201778:=Prop
def tw13481268755573549168:=Prop
def tw17093224777342109595:=Prop
def tw8237626310708396552:=Prop
def tw4211700434839312001:=Prop
def tw17837415989878807268:=Prop
def tw4674102799890499726:=Prop
def tw5351950890769337794:=Prop
def tw15862806813707239167:=Prop
def tw9305391788130653963:=Prop
def tw8824595633291508535:=Prop
def tw1611551182742943237:=Prop
def tw6159558832647704379:=Prop
def tw9761588102954696855:=Prop
def tw726985913927333873:=Prop
def tw2385268686561707046:=Prop
def tw2335157872551914648:=Prop
def tw2927799364441409784:=Prop
def tw729466047920990731:=Prop
def tw15137687247720179910:=Prop
def tw17513604867990543079:=Prop
def tw8605165415444627158:=Prop
def tw13553050674002434610:=Prop
def tw14987661418082201831:=Prop
def tw7097827964152542560:=Prop
def tw15632992782082381434:=Prop
def tw5426448371682200115:=Prop
def tw17094580856887593759:=Prop
def tw17119971604622065936:=Prop
def tw14788362278542820120:=Prop
def tw2648174423076098445:=Prop
def tw5266450434754204200:=Prop
def tw7317234293075219:=Prop
def tw10069975712529536831:=Prop
def tw4425046354534653865:=Prop
def tw18431155831084640082:=Prop
def tw14722794537435163219:=Prop
def tw11069628954808310989:=Prop
def tw7942853410682446962:=Prop
def tw17698735102306075112:=Prop
def tw317932667124481529:=Prop
def tw11118301316682269745:=Prop
def tw15078095837771203109:=Prop
def tw11188117447681078326:=Prop
def tw11763852733077360975:=Prop
def tw8526028360262338249:=Prop
def tw10052001805573714066:=Prop
def tw1877378965866140348:=Prop
def tw306725001281121169:=Prop
def tw17882641709403210578:=Prop
def tw15545184769064153574:=Prop
def tw16396790404030501481:=Prop
def tw14791511552775963103:=Prop
def tw1647960591809683682:=Prop
def tw17878424488110687958:=Prop
def tw14267268813261638861:=Prop
def tw5835942142707902020:=Prop
def tw10015450608781386451:=Prop
def tw4185518321428705831:=Prop
def tw1733859077932722978:=Prop
def tw3345597093286824917:=Prop
def tw5680315236850328200:=Prop
def tw8174591469460913490:=Prop
def tw11786325122171474085:=Prop
def tw7343611390307366373:=Prop
def tw5916140570258018564:=Prop
def tw14323227155912201964:=Prop
def tw7340446101256811000:=Prop
def tw14734032772098568817:=Prop
def tw8553059368797141306:=Prop
def tw2962324470309885386:=Prop
def tw16266442582153907279:=Prop
def tw8667492640987031791:=Prop
def tw11320351676317602388:=Prop
def tw2631051879327533642:=Prop
def tw6905212232875527693:=Prop
def tw13952158723898717365:=Prop
def tw18012574323051992567:=Prop
def tw5310652868755799522:=Prop
def tw7524379617451308511:=Prop
def tw18167724695441219349:=Prop
def tw12392129776423771058:=Prop
def tw4968929673044707356:=Prop
def tw1391549112126926301:=Prop
def tw10846345724684618374:=Prop
def tw13055661147411815287:=Prop
def tw3934833063311361131:=Prop
def tw7076977106511060911:=Prop
def tw274189353798237994:=Prop
def tw2873748437651673626:=Prop
def tw10896712999787139778:=Prop
def tw16655083059833703075:=Prop
def tw3664731896753646195:=Prop
def tw6771182271545134960:=Prop
def tw6873971014812347169:=Prop
def tw4340971767527515617:=Prop
def tw10497823618577955822:=Prop
def tw644751248652905101:=Prop
def tw13508602156133886167:=Prop
def tw2680141511932349947:=Prop
def tw12598546647426120408:=Prop
def tw14279065940840616024:=Prop
def tw4038909232737020655:=Prop
def tw10131873952172028942:=Prop
def tw18329075359065952542:=Prop
def tw1267704075650749254:=Prop
def tw16463793508043411602:=Prop
def tw5587484289544270231:=Prop
def tw8131721106225051767:=Prop
def tw3808584094389355786:=Prop
def tw15261137711255440680:=Prop
def tw10800367221633172730:=Prop
def tw10134030333460990790:=Prop
def tw4177351759533223642:=Prop
def tw2202087279664922802:=Prop
def tw16925118299729312639:=Prop
def tw3471986238504059686:=Prop
def tw4799189423077775474:=Prop
def tw17456480263006714056:=Prop
def tw18182889222666715495:=Prop
def tw7894344252036594922:=Prop
def tw7090585071989052306:=Prop
def tw438459731153329746:=Prop
def tw4188684199736651882:=Prop
def tw17338234738716814015:=Prop
def tw12325562205625792791:=Prop
def tw1998032249293215463:=Prop
def tw9161490523856799436:=Prop
def tw6760056911573607715:=Prop
def tw7618804249908900691:=Prop
def tw11300376045408061371:=Prop
def tw3369663099759083609:=Prop
def tw18277388166739348960:=Prop
def tw3133745999044795564:=Prop
def tw671769174312181376:=Prop
def tw3839540949395841721:=Prop
def tw3083371992184736890:=Prop
def tw10354477200866600673:=Prop
def tw3302770140995672700:=Prop
def tw12079628635447562283:=Prop
def tw6252695792229605141:=Prop
def tw10393078302967963895:=Prop
def tw6205024481829086969:=Prop
def tw16884622931589843948:=Prop
def tw5015507407206683207:=Prop
def tw16408362238061914836:=Prop
def tw8621336744817483243:=Prop
def tw14064692534454641163:=Prop
def tw15155859288707382567:=Prop
def tw11347631108264317165:=Prop
def tw14398365135244066966:=Prop
def tw17590088832654516399:=Prop
def tw6606014719576569030:=Prop
def tw6999941293234460784:=Prop
def tw10241233070082051121:=Prop
def tw17960406059949683352:=Prop
def tw14112606434462084385:=Prop
def tw1173414789623836638:=Prop
def tw12319047049370110589:=Prop
def tw7158441374720773216:=Prop
def tw133755455108545178:=Prop
def tw16286715671046524454:=Prop
def tw4551872649113716216:=Prop
def tw12514039047250868702:=Prop
def tw5609530884314319229:=Prop
def tw6788773261714906821:=Prop
def tw2484844197603217540:=Prop
def tw7717702957765121957:=Prop
def tw13350131943787299761:=Prop
def tw1354003750591732747:=Prop
def tw14731147920152588799:=Prop
def tw11887224372650548316:=Prop
def tw8078195926588453703:=Prop
def tw3822784309164373692:=Prop
def tw5674458297940323589:=Prop
def tw12523711969749109062:=Prop
def tw5011889884212318148:=Prop
def tw14245618210516037357:=Prop
def tw6784790241324674965:=Prop
def tw8697654515486363317:=Prop
def tw2456577590951144490:=Prop
def tw12661032092557703082:=Prop
def tw4636031889025220839:=Prop
def tw16607927582987124570:=Prop
def tw13949155002146243131:=Prop
def tw4589182232624314844:=Prop
def tw16970792351503237766:=Prop
def tw14949513074056673275:=Prop
def tw1620389302784492585:=Prop
def tw13323373534744806615:=Prop
def tw17960848765466677729:=Prop
def tw7910172739516966087:=Prop
def tw17802128708061929859:=Prop
def tw9835382159548102362:=Prop
def tw14650769484350525481:=Prop
def tw5713610079918043996:=Prop
def tw18042889414512086050:=Prop
def tw1833547357909804662:=Prop
def tw3016012700857477809:=Prop
def tw3942624392001961204:=Prop
def tw5738919822854818926:=Prop
def tw1122505984323709140:=Prop
def tw6728313399510405491:=Prop
def tw11654023200298843171:=Prop
def tw16803143847538834185:=Prop
def tw11843833423457600547:=Prop
def tw15536387163757344236:=Prop
def tw17108046237660401759:=Prop
def tw16504757533647375273:=Prop
end PySem.W.Fast
open PySem PySem.W PyProof.Rows
set_option maxRecDepth 100000
set_option maxHeartbeats 0
open_top head for PySem.Challenge.rw_codemill_k31_whole_must
theorem PySem.Challenge.cw_codemill_k31_whole_must_holds : PySem.Challenge.rw_codemill_k31_whole_must.Holds :=
 head (by
 k_fill
 refine My.walk (l:=PySem.Challenge.rw_codemill_k31_whole_must) rfl rfl (fun w h Y=>PySem.W.kIn_of Y) ?F
 case F=>
  intro w mg fa h KX G hmg
  refine' My.all_mk KX G hmg ?a12 ?l12 ?a13 ?l13 ?a14 ?l14 ?a15 ?l15 ?a16 ?l16 ?a17 ?l17 ?a18 ?l18 ?a19 ?l19 ?a20 ?l20 ?a21 ?l21 ?a22 ?l22 ?a24 ?l24 ?a25 ?l25 ?a26 ?l26 ?a27 ?l27 ?a28 ?l28 ?a29 ?l29 ?a30 ?l30 ?a31 ?l31 ?a32 ?l32 ?a42 ?l42 ?a43 ?l43 ?a44 ?l44 ?a45 ?l45 ?a46 ?l46 ?a47 ?l47 ?a48 ?l48 ?a49 ?l49 ?a50 ?l50 ?a51 ?l51 ?a52 ?l52 ?a53 ?l53 ?a55 ?l55 ?a56 ?l56 ?a57 ?l57 ?a58 ?l58 ?a59 ?l59 ?a60 ?l60 ?a62 ?l62 ?a63 ?l63 ?a64 ?l64 ?a65 ?l65 ?a66 ?l66 ?a67 ?l67 ?a69 ?l69 ?a70 ?l70 ?a71 ?l71 ?a72 ?l72 ?a73 ?l73 ?a74 ?l74 ?a75 ?l75 ?a76 ?l76 ?a77 ?l77 ?a78 ?l78 ?a79 ?l79 ?a68 ?l68 ?c68 ?k68 ?t68 ?s68 ?z_isinstance ?z_int ?z_bool ?z_str ?z_tuple ?z_list ?z_len ?z_range ?z_enumerate ?z_all ?z_max ?z_min ?z_sorted ?z_zip ?q_rows ?r_rows ?q_line ?r_line ?q_mark ?r_mark ?q_pushed ?r_pushed ?q_name ?r_name ?q_kind ?r_kind ?ta_sorts ?tl_sorts ?tk_sorts ?tm_sorts ?tp_sorts ?ta_tests ?tl_tests ?tk_tests ?tm_tests ?tp_tests ?ta_takes ?tl_takes ?tk_takes ?tm_takes ?tp_takes ?ta_pushes ?tl_pushes ?tk_pushes ?tm_pushes ?tp_pushes ?ta_gput ?tl_gput ?tk_gput ?tm_gput ?tp_gput ?ua_jumping ?ul_jumping ?uc_jumping ?ud_jumping ?uv_jumping ?ua_leaving ?ul_leaving ?uc_leaving ?ud_leaving ?uv_leaving ?ua_never ?ul_never ?uc_never ?ud_never ?uv_never ?ua_faulting ?ul_faulting ?uc_faulting ?ud_faulting ?uv_faulting ?ua_first ?ul_first ?uc_first ?ud_first ?uv_first ?ul_gfirst ?uc_gfirst ?ud_gfirst ?uv_gfirst
  (case a12=>k_is)
  (case l12=>exact My.lk_mk (by k_is) (by k_is) (by k_is))
  (case a13=>k_is)
  (case l13=>exact My.lk_mk (by k_is) (by k_is) (by k_is))
  (case a14=>k_is)
  (case l14=>exact My.lk_mk (by k_is) (by k_is) (by k_is))
  (case a15=>k_is)
  (case l15=>exact My.lk_mk (by k_is) (by k_is) (by k_is))
  (case a16=>k_is)
  (case l16=>exact My.lk_mk (by k_is) (by k_is) (by k_is))
  (case a17=>k_is)
  (case l17=>exact My.lk_mk (by k_is) (by k_is) (by k_is))
  (case a18=>k_is)
  (case l18=>exact My.lk_mk (by k_is) (by k_is) (by k_is))
  (case a19=>k_is)
  (case l19=>exact My.lk_mk (by k_is) (by k_is) (by k_is))
  (case a20=>k_is)
  (case l20=>exact My.lk_mk (by k_is) (by k_is) (by k_is))
  (case a21=>k_is)
  (case l21=>exact My.lk_mk (by k_is) (by k_is) (by k_is))
  (case a22=>k_is)
  (case l22=>exact My.lk_mk (by k_is) (by k_is) (by k_is))
  (case a24=>k_is)
  (case l24=>exact My.lk_mk (by k_is) (by k_is) (by k_is))
  (case a25=>k_is)
  (case l25=>exact My.lk_mk (by k_is) (by k_is) (by k_is))
  (case a26=>k_is)
  (case l26=>exact My.lk_mk (by k_is) (by k_is) (by k_is))
  (case a27=>k_is)
  (case l27=>exact My.lk_mk (by k_is) (by k_is) (by k_is))
  (case a28=>k_is)
  (case l28=>exact My.lk_mk (by k_is) (by k_is) (by k_is))
  (case a29=>k_is)
  (case l29=>exact My.lk_mk (by k_is) (by k_is) (by k_is))
  (case a30=>k_is)
  (case l30=>exact My.lk_mk (by k_is) (by k_is) (by k_is))
  (case a31=>k_is)
  (case l31=>exact My.lk_mk (by k_is) (by k_is) (by k_is))
  (case a32=>k_is)
  (case l32=>exact My.lk_mk (by k_is) (by k_is) (by k_is))
  (case a42=>k_is)
  (case l42=>exact My.lk_mk (by k_is) (by k_is) (by k_is))
  (case a43=>k_is)
  (case l43=>exact My.lk_mk (by k_is) (by k_is) (by k_is))
  (case a44=>k_is)
  (case l44=>exact My.lk_mk (by k_is) (by k_is) (by k_is))
  (case a45=>k_is)
  (case l45=>exact My.lk_mk (by k_is) (by k_is) (by k_is))
  (case a46=>k_is)
  (case l46=>exact My.lk_mk (by k_is) (by k_is) (by k_is))
  (case a47=>k_is)
  (case l47=>exact My.lk_mk (by k_is) (by k_is) (by k_is))
  (case a48=>k_is)
  (case l48=>exact My.lk_mk (by k_is) (by k_is) (by k_is))
  (case a49=>k_is)
  (case l49=>exact My.lk_mk (by k_is) (by k_is) (by k_is))
  (case a50=>k_is)
  (case l50=>exact My.lk_mk (by k_is) (by k_is) (by k_is))
  (case a51=>k_is)
  (case l51=>exact My.lk_mk (by k_is) (by k_is) (by k_is))
  (case a52=>k_is)
  (case l52=>exact My.lk_mk (by k_is) (by k_is) (by k_is))
  (case a53=>k_is)
  (case l53=>exact My.lk_mk (by k_is) (by k_is) (by k_is))
  (case a55=>k_is)
  (case l55=>exact My.lk_mk (by k_is) (by k_is) (by k_is))
  (case a56=>k_is)
  (case l56=>exact My.lk_mk (by k_is) (by k_is) (by k_is))
  (case a57=>k_is)
  (case l57=>exact My.lk_mk (by k_is) (by k_is) (by k_is))
  (case a58=>k_is)
  (case l58=>exact My.lk_mk (by k_is) (by k_is) (by k_is))
  (case a59=>k_is)
  (case l59=>exact My.lk_mk (by k_is) (by k_is) (by k_is))
  (case a60=>k_is)
  (case l60=>exact My.lk_mk (by k_is) (by k_is) (by k_is))
  (case a62=>k_is)
  (case l62=>exact My.lk_mk (by k_is) (by k_is) (by k_is))
  (case a63=>k_is)
  (case l63=>exact My.lk_mk (by k_is) (by k_is) (by k_is))
  (case a64=>k_is)
  (case l64=>exact My.lk_mk (by k_is) (by k_is) (by k_is))
  (case a65=>k_is)
  (case l65=>exact My.lk_mk (by k_is) (by k_is) (by k_is))
  (case a66=>k_is)
  (case l66=>exact My.lk_mk (by k_is) (by k_is) (by k_is))
  (case a67=>k_is)
  (case l67=>exact My.lk_mk (by k_is) (by k_is) (by k_is))
  (case a69=>k_is)
  (case l69=>exact My.lk_mk (by k_is) (by k_is) (by k_is))
  (case a70=>k_is)
  (case l70=>exact My.lk_mk (by k_is) (by k_is) (by k_is))
  (case a71=>k_is)
  (case l71=>exact My.lk_mk (by k_is) (by k_is) (by k_is))
  (case a72=>k_is)
  (case l72=>exact My.lk_mk (by k_is) (by k_is) (by k_is))
  (case a73=>k_is)
  (case l73=>exact My.lk_mk (by k_is) (by k_is) (by k_is))
  (case a74=>k_is)
  (case l74=>exact My.lk_mk (by k_is) (by k_is) (by k_is))
  (case a75=>k_is)
  (case l75=>exact My.lk_mk (by k_is) (by k_is) (by k_is))
  (case a76=>k_is)
  (case l76=>exact My.lk_mk (by k_is) (by k_is) (by k_is))
  (case a77=>k_is)
  (case l77=>exact My.lk_mk (by k_is) (by k_is) (by k_is))
  (case a78=>k_is)
  (case l78=>exact My.lk_mk (by k_is) (by k_is) (by k_is))
  (case a79=>k_is)
  (case l79=>exact My.lk_mk (by k_is) (by k_is) (by k_is))
  (case a68=>k_is)
  (case l68=>k_is)
  (case c68=>k_is)
  (case k68=>k_is)
  (case t68=>k_is)
  (case s68=>exact rfl)
  (case z_isinstance=>k_is)
  (case z_int=>k_is)
  (case z_bool=>k_is)
  (case z_str=>k_is)
  (case z_tuple=>k_is)
  (case z_list=>k_is)
  (case z_len=>k_is)
  (case z_range=>k_is)
  (case z_enumerate=>k_is)
  (case z_all=>k_is)
  (case z_max=>k_is)
  (case z_min=>k_is)
  (case z_sorted=>k_is)
  (case z_zip=>k_is)
  (case q_rows=>k_is)
  (case r_rows=>first | exact ⟨_,rfl⟩ | exact rfl)
  (case q_line=>k_is)
  (case r_line=>first | exact ⟨_,rfl⟩ | exact rfl)
  (case q_mark=>k_is)
  (case r_mark=>first | exact ⟨_,rfl⟩ | exact rfl)
  (case q_pushed=>k_is)
  (case r_pushed=>first | exact ⟨_,rfl⟩ | exact rfl)
  (case q_name=>k_is)
  (case r_name=>first | exact ⟨_,rfl⟩ | exact rfl)
  (case q_kind=>k_is)
  (case r_kind=>first | exact ⟨_,rfl⟩ | exact rfl)
  (case ta_sorts=>k_is)
  (case tl_sorts=>k_is)
  (case tk_sorts=>k_keys)
  (case tm_sorts=>first | exact rfl | decide)
  (case tp_sorts=>repeat (first | exact .nil | refine .cons ⟨⟨_,rfl⟩,(by first | exact rfl | exact ⟨_,rfl⟩)⟩ ?_))
  (case ta_tests=>k_is)
  (case tl_tests=>k_is)
  (case tk_tests=>k_keys)
  (case tm_tests=>first | exact rfl | decide)
  (case tp_tests=>repeat (first | exact .nil | refine .cons ⟨⟨_,rfl⟩,(by first | exact rfl | exact ⟨_,rfl⟩)⟩ ?_))
  (case ta_takes=>k_is)
  (case tl_takes=>k_is)
  (case tk_takes=>k_keys)
  (case tm_takes=>first | exact rfl | decide)
  (case tp_takes=>repeat (first | exact .nil | refine .cons ⟨⟨_,rfl⟩,(by first | exact rfl | exact ⟨_,rfl⟩)⟩ ?_))
  (case ta_pushes=>k_is)
  (case tl_pushes=>k_is)
  (case tk_pushes=>k_keys)
  (case tm_pushes=>first | exact rfl | decide)
  (case tp_pushes=>repeat (first | exact .nil | refine .cons ⟨⟨_,rfl⟩,(by first | exact rfl | exact ⟨_,rfl⟩)⟩ ?_))
  (case ta_gput=>k_is)
  (case tl_gput=>k_is)
  (case tk_gput=>k_keys)
  (case tm_gput=>first | exact rfl | decide)
  (case tp_gput=>repeat (first | exact .nil | refine .cons ⟨⟨_,rfl⟩,(by first | exact rfl | exact ⟨_,rfl⟩)⟩ ?_))
  (case ua_jumping=>k_is)
  (case ul_jumping=>k_is)
  (case uc_jumping=>exact rfl)
  (case ud_jumping=>exact rfl)
  (case uv_jumping=>repeat (first | exact .nil | refine .cons (by first | exact rfl | exact ⟨_,rfl⟩) ?_))
  (case ua_leaving=>k_is)
  (case ul_leaving=>k_is)
  (case uc_leaving=>exact rfl)
  (case ud_leaving=>exact rfl)
  (case uv_leaving=>repeat (first | exact .nil | refine .cons (by first | exact rfl | exact ⟨_,rfl⟩) ?_))
  (case ua_never=>k_is)
  (case ul_never=>k_is)
  (case uc_never=>exact rfl)
  (case ud_never=>exact rfl)
  (case uv_never=>repeat (first | exact .nil | refine .cons (by first | exact rfl | exact ⟨_,rfl⟩) ?_))
  (case ua_faulting=>k_is)
  (case ul_faulting=>k_is)
  (case uc_faulting=>exact rfl)
  (case ud_faulting=>exact rfl)
  (case uv_faulting=>repeat (first | exact .nil | refine .cons (by first | exact rfl | exact ⟨_,rfl⟩) ?_))
  (case ua_first=>k_is)
  (case ul_first=>k_is)
  (case uc_first=>exact rfl)
  (case ud_first=>exact rfl)
  (case uv_first=>repeat (first | exact .nil | refine .cons (by first | exact rfl | exact ⟨_,rfl⟩) ?_))
  (case ul_gfirst=>k_is)
  (case uc_gfirst=>exact rfl)
  (case ud_gfirst=>exact rfl)
  (case uv_gfirst=>repeat (first | exact .nil | refine .cons (by first | exact rfl | exact ⟨_,rfl⟩) ?_)))
