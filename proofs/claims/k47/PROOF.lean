import PyProof.Rows.All
import Wide.All
import OpenK.AllK
import Wide.FinOn
import Lean
import PyProof.EqAt
import PyProof.EqKinds
import PyProof.TupleCall
import KE.KDictList
import PyProof.Rows.TupDisplay
import PyProof.Rows.StrKeys3
import PyProof.Rows.StrWeight2
import PyProof.SliceStr2
import PyProof.StrLaws
import PyProof.Rows.Range3
import PyProof.Rows.SortRuns
import PyProof.Rows.SortKeyStr
import PyProof.Rows.StrRules
import PyProof.ZipIter
import PySem.Challenge.RW_threetrees_k47_pairs_counted_and_told
set_option genSizeOfSpec false
set_option linter.all false
set_option Elab.async false
set_option maxRecDepth 100000
set_option linter.defProp false
def Aa0:=@List.mem_append
def Aa1:=@List.mem_cons
def Aa2:=@List.getElem?_eq_getElem
def Aa3:=@List.length_map
def Aa4:=@List.nodup_cons
def Aa5:=@PySem.Heap.get?_push_of_some
def Aa6:=@Nat.le_refl
def Aa7:=@List.mem_map
def Aa8:=@List.getElem?_map
def Aa9:=@List.getElem?_eq_some_iff
def Ab0:=@PySem.F.plainAttrs_list
def Ab1:=@List.size_toArray
def Ab2:=@PySem.Heap.lt_size
def Ab3:=@Option.some.inj
def Ab4:=@List.mem_range
def Ab5:=@List.length_append
def Ab6:=@Nat.lt_of_lt_of_le
def Ab7:=@Nat.ne_of_lt
def Ab8:=@List.getD_eq_getElem?_getD
def Ab9:=@List.mem_append_right
def Ac0:=@List.not_mem_nil
def Ac1:=@PySem.Heap.get?_push_size
def Ac2:=@List.map_cons
def Ac3:=@Int.toNat_natCast
def Ac4:=@List.all_eq_true
def Ac5:=@List.getElem?_set_ne
def Ac6:=@List.length_take
def Ac7:=@List.map_append
def Ac8:=@List.mem_cons_of_mem
def Ac9:=@List.getElem?_eq_none
def Ad0:=@List.append_assoc
def Ad1:=@List.mem_singleton
def Ad2:=@Nat.lt_irrefl
def Ad3:=@List.map_map
namespace L2
open PySem PySem.Spec PyProof.Rows
abbrev Key:=Sum Int Str
def bR1:Key->Value->Bool
 | .inl k,v=>Value.isInt k v
 | .inr x,v=>Value.isStrOf x v
def cE6 (w:World):Key->Int
 | .inl k=>hashInt k
 | .inr x=>hashStr w x
theorem E3:∀{k:Key} {v:Value},bR1 k v=true->(∃i t,k=Sum.inl i/\v=Value.int i t)\/(∃x t,k=Sum.inr x/\v=Value.str x t)
 | .inl i,v,h=>by
  obtain ⟨t,e⟩:=Value.isInt_shape (k:=i) (v:=v) h;exact .inl ⟨i,t,rfl,e⟩
 | .inr x,v,h=>by
  obtain ⟨t,e⟩:=Value.isStrOf_shape (x:=x) (v:=v) h;exact .inr ⟨x,t,rfl,e⟩
theorem bS9 (a b:Int):decide ((Sum.inl a:Key)=Sum.inl b)=(a==b):=by
 by_cases e:a=b
 ·subst e;simp
 ·have h:¬(Sum.inl a:Key)=Sum.inl b:=λq=>e (Sum.inl.inj q)
  rw[decide_eq_false h];exact(beq_eq_false_iff_ne.mpr e).symm
theorem bV8 (a b:Str):decide ((Sum.inr a:Key)=Sum.inr b)=decide (a=b):=by
 by_cases e:a=b
 ·subst e;simp
 ·have h:¬(Sum.inr a:Key)=Sum.inr b:=λq=>e (Sum.inr.inj q)
  rw[decide_eq_false h,decide_eq_false e]
theorem bS4 (a:Int)(b:Str):decide ((Sum.inl a:Key)=Sum.inr b)=false:=decide_eq_false (λq=>nomatch q)
theorem bW5 (a:Str)(b:Int):decide ((Sum.inr a:Key)=Sum.inl b)=false:=decide_eq_false (λq=>nomatch q)
def aV7 (prog:Program)(w:World):PySem.KeyKind prog w Key where
 is:=bR1
 hash:=cE6 w
 inj:=λv a b ha hb=>by
  rcases E3 ha with ⟨i,t,rfl,rfl⟩ | ⟨x,t,rfl,rfl⟩
  ·rcases E3 hb with ⟨j,u,rfl,e⟩ | ⟨y,u,rfl,e⟩
   ·injection e with e1 _;rw[e1]
   ·exact nomatch e
  ·rcases E3 hb with ⟨j,u,rfl,e⟩ | ⟨y,u,rfl,e⟩
   ·exact nomatch e
   ·injection e with e1 _;rw[e1]
 byValue:=λk v h=>by
  rcases E3 h with ⟨i,t,rfl,rfl⟩ | ⟨x,t,rfl,rfl⟩ <;> rfl
 pyHash:=λhv h=>by
  rcases E3 hv with ⟨i,t,rfl,rfl⟩ | ⟨x,t,rfl,rfl⟩
  ·exact wpAny_pyHash_int h
  ·exact wpAny_pyHash_str h
 eqBool:=λhu hv h=>by
  rcases E3 hu with ⟨i,t,rfl,rfl⟩ | ⟨x,t,rfl,rfl⟩
  ·rcases E3 hv with ⟨j,u,rfl,rfl⟩ | ⟨y,u,rfl,rfl⟩
   ·rw[bS9]at h;exact wpAny_eqBool_int h
   ·rw[bS4]at h;exact SeqAt.EqAt.int_str i t y u _ _ _ _ h
  ·rcases E3 hv with ⟨j,u,rfl,rfl⟩ | ⟨y,u,rfl,rfl⟩
   ·rw[bW5]at h;exact SeqAt.EqAt.str_int x t j u _ _ _ _ h
   ·rw[bV8]at h;exact wpAny_eqBool_str h
 «strs» := λk x t v h=>by
  rcases E3 h with ⟨i,u,rfl,e⟩ | ⟨y,u,rfl,e⟩
  ·exact nomatch e
  ·injection e with e1 _
   subst e1;cases v <;> rfl
inductive V where
 | non | bl (b:Bool) | int (i:Int) | str (x:Str) | byt (b:Array UInt8) | flt (b:UInt64) | ref (a:Addr) | ty (n:String)
 deriving DecidableEq
def RelV:V->Value->Prop
 | .non,u=>u=Value.none
 | .bl b,u=>u=Value.bool b
 | .int i,u=>∃t,u=Value.int i t
 | .str x,u=>∃t,u=Value.str x t
 | .byt b,u=>∃t,u=Value.bytes b t
 | .flt b,u=>∃t,u=Value.float b t
 | .ref a,u=>u=Value.ref a
 | .ty n,u=>u=Value.type n
abbrev Vals:List V->List Value->Prop:=Paired RelV
theorem Vals.length {xs:List V}{us:List Value}(r:Vals xs us):xs.length=us.length:=Paired.length r
theorem Vals.get:∀{xs:List V} {us:List Value} {i:Nat} {x:V},Vals xs us->xs[i]? = some x->∃u,us[i]? = some u/\RelV x u
 | _,_,_,_,.nil,e=>by simp at e
 | _,_,0,_,.cons r _,e=>by simp at e;subst e;exact⟨_,rfl,r⟩
 | _,_,i+1,x,.cons _ t,e=>by
  obtain ⟨u,h1,h2⟩:=Vals.get (i:=i) (x:=x) t (by simpa using e)
  exact⟨u,by simpa using h1,h2⟩
theorem Vals.set {x:V}{u:Value}(r:RelV x u):∀{xs:List V} {us:List Value} (i:Nat),Vals xs us->Vals (xs.set i x) (us.set i u)
 | _,_,_,.nil=>.nil
 | _,_,0,.cons _ t=>.cons r t
 | _,_,i+1,.cons q t=>.cons q (Vals.set r i t)
theorem Vals.append:∀{xs ys:List V} {us ws:List Value},Vals xs us->Vals ys ws->Vals (xs++ys) (us++ws)
 | _,_,_,_,.nil,s=>s
 | _,_,_,_,.cons r t,s=>.cons r (Vals.append t s)
def bY9:Option V->Option Value->Prop
 | some v,some u=>RelV v u
 | none,none=>True
 | _,_=>False
def KV {κ:Type}:List (κ×V)->List (κ×Value)->Prop:=Paired λ(p:κ×V) (q:κ×Value)=>p.1=q.1/\RelV p.2 q.2
def kV:Key->V
 | .inl i=>.int i
 | .inr x=>.str x
inductive HO where
 /-- a list -/
 | lst (xs:List V)
 /-- a tuple (never changes) -/
 | tup (xs:List V)
 /-- a dict whose keys are ints and texts;one whose keys are tuples of ints and texts (the empty one is both) -/
 | dK (kvs:List (Key×V)) | dT (kvs:List (List Key×V))
 /-- a set of ints: its members,its size -/
 | set (S:Int->Bool) (n:Nat)
 /-- an instance of the class at C,its dict at dx,its attributes -/
 | ins (C dx:Addr) (fs:List (Str×V))
 /-- the dict of the instance at x -/
 | own (x:Addr)
 /-- the dict of an exception -/
 | xd (fs:List (Str×V))
 /-- a bound method,f of x -/
 | met (f x:Addr)
 /-- a range object lo,lo+1,.. below hi -/
 | rng (lo hi:Int)
 /-- a thing that is known to the object (the script;a dict while a loop walks it): read,never written while it is so -/
 | frz (o:Obj) (u:HO)
 /-- a code object's table -/
 | tbl (ps:Array Value)
 /-- any other thing,by what is true of its one object (a def of one's own: SetO a S n:=HO.ext λh=>..) -/
 | ext (φ:Heap->Prop)
abbrev Hp:=Addr->Option HO
def upd (H:Hp)(a:Addr)(o:HO):Hp:=λb=>if b=a then some o else H b
theorem C7 {H:Hp}{a:Addr}{o:HO}:upd H a o a=some o:=by unfold upd;rw[if_pos rfl]
theorem B2 {H:Hp}{a b:Addr}{o:HO}(h:b≠a):upd H a o b=H b:=by unfold upd;rw[if_neg h]
theorem C5 {H:Hp}{a b:Addr}{o:HO}(h:H a=some o)(h':H b=none):a≠b:=by
 intro e;subst e;rw[h]at h';cases h'
def Tup0 (h:Heap)(a:Addr)(items:Array Value):Prop:=∃o,h.get? a=some o/\o.cls=.type "tuple" /\ (∃n,o.data=.seq items n)/\o.dict=none
theorem Tup0.tup {h:Heap}{a:Addr}{items:Array Value}(p:Tup0 h a items):IsTup h a items:=p.imp λ_ q=>⟨q.1,q.2.1,q.2.2.1⟩
section
variable (P:Program)(w:World)
def ObjOk (H:Hp)(h:Heap)(a:Addr):HO->Prop
 | .lst xs=>xs.length<=sizeLine/\∃(its:List Value) (n:Nat),Vals xs its/\h.get? a=some {cls:=.type "list",data:=.seq its.toArray n}
 | .tup xs=>xs.length<=sizeLine/\∃its:List Value,Vals xs its/\Tup0 h a its.toArray
 | .dK kvs=>kvs.length<=sizeLine/\(a==sysModules)=false/\∃vs,KV kvs vs/\h.DictOf (aV7 P w) a vs
 | .dT kvs=>kvs.length<=sizeLine/\(a==sysModules)=false/\∃xs:List (List Key×Addr×Value),
   Paired (λ(p:List Key×V) (q:List Key×Addr×Value)=>p.1=q.1/\H q.2.1=some (.tup (p.1.map kV))/\RelV p.2 q.2.2) kvs xs /\
   ∃o es ep,h.get? a=some o/\o.ExactDict/\o.data=.dict es ep/\es.toList=xs.map (entryOfKey (tupleKind (aV7 P w)))/\(xs.map (·.1)).Nodup
 | .set S n=>h.SetOf (intKind P w) a S n
 | .ins C dx fs=>H dx=some (.own a)/\fs.length<=1000/\dx≠a/\h.get? a=some (PySem.W.instObj C dx) /\
   ∃mA,h.Ns1 dx mA/\(∀f,bY9 (fs.lookup f) (mA f))/\PySem.Within mA (fs.map (·.1))
 | .own _=>∃o,h.get? a=some o
 | .xd fs=>∃mA,h.Ns1 a mA/\∀f,bY9 (fs.lookup f) (mA f)
 | .rng lo hi=>∃t u v,h.get? a=some {cls:=.type "range",data:=.fields #[.int lo t,.int hi u,.int 1 v]}
 | .frz o u=>h.get? a=some o/\ObjOk H h a u
 | .tbl ps=>h.get? a=some {cls:=.none,data:=.fields ps}
 | .met f x=>h.get? a=some (PySem.W.methodObj (.ref f) (.ref x))
 | .ext φ => φ h/\(∃o,h.get? a=some o)/\∀h1 h2:Heap,φ h1->(∀o,h1.get? a=some o->h2.get? a=some o)->φ h2
def HOk (H:Hp)(h:Heap):Prop:=∀a o,H a=some o->ObjOk P w H h a o
end
section
variable {P:Program}{w:World}{H H':Hp}{h h':Heap}{a:Addr}{o:HO}
theorem ObjOk.lt (x:ObjOk P w H h a o):a<h.objs.size:=by
 cases o with
 | lst xs=>obtain ⟨_,_,_,_,e⟩:=x;exact Ab2 e
 | tup xs=>obtain ⟨_,_,_,p⟩:=x;exact p.tup.lt
 | dK kvs=>obtain ⟨_,_,_,_,o,_,_,e,_⟩:=x;exact Ab2 e
 | dT kvs=>obtain ⟨_,_,_,_,o,_,_,e,_⟩:=x;exact Ab2 e
 | set S n=>obtain ⟨o,_,_,_,e,_⟩:=x;exact Ab2 e
 | ins C dx fs=>obtain ⟨_,_,_,e,_⟩:=x;exact Ab2 e
 | own y=>obtain ⟨_,e⟩:=x;exact Ab2 e
 | xd fs=>obtain ⟨_,⟨_,_,_,e,_⟩,_⟩:=x;exact Ab2 e
 | rng lo hi=>obtain ⟨_,_,_,e⟩:=x;exact Ab2 e
 | frz ob u=>obtain ⟨e,_⟩:=x;exact Ab2 e
 | tbl ps=>exact Ab2 (show h.get? a=some _ from x)
 | met f y=>exact Ab2 (show h.get? a=some _ from x)
 | ext φ=>obtain ⟨_,⟨_,e⟩,_⟩:=x;exact Ab2 e
theorem Paired.mapP {α β:Type}{F G:α->β->Prop}:∀{l₁:List α} {l₂:List β},Paired F l₁ l₂->(∀a b,F a b->G a b)->Paired G l₁ l₂
 | _,_,.nil,_=>.nil
 | _,_,.cons r t,f=>.cons (f _ _ r) (Paired.mapP t f)
theorem ObjOk.stay (x:ObjOk P w H h a o)(k:∀b u,(b=a\/H b=some (.own a))->h.get? b=some u->h'.get? b=some u)
  (ho:∀b,H b=some (.own a)->H' b=some (.own a)) (ht:∀b xs,H b=some (.tup xs)->H' b=some (.tup xs)):ObjOk P w H' h' a o:=by
 induction o with
 | lst xs=>obtain ⟨z,its,n,r,e⟩:=x;exact⟨z,its,n,r,k _ _ (.inl rfl) e⟩
 | tup xs=>obtain ⟨z,its,r,ob,e,c⟩:=x;exact⟨z,its,r,ob,k _ _ (.inl rfl) e,c⟩
 | dK kvs=>obtain ⟨z,y,vs,r,ob,es,ep,e,c⟩:=x;exact⟨z,y,vs,r,ob,es,ep,k _ _ (.inl rfl) e,c⟩
 | dT kvs=>
  obtain ⟨z,y,xs,r,ob,es,ep,e,c⟩:=x;exact⟨z,y,xs,Paired.mapP r λp q z=>⟨z.1,ht _ _ z.2.1,z.2.2⟩,ob,es,ep,k _ _ (.inl rfl) e,c⟩
 | set S n=>obtain ⟨ob,es,ep,t,e,c⟩:=x;exact⟨ob,es,ep,t,k _ _ (.inl rfl) e,c⟩
 | ins C dx fs=>
  obtain ⟨d,z,ne,e,mA,⟨od,es,ep,e2,c⟩,r⟩:=x;exact⟨ho _ d,z,ne,k _ _ (.inl rfl) e,mA,⟨od,es,ep,k _ _ (.inr d) e2,c⟩,r⟩
 | own y=>obtain ⟨ob,e⟩:=x;exact⟨ob,k _ _ (.inl rfl) e⟩
 | xd fs=>obtain ⟨mA,⟨od,es,ep,e,c⟩,r⟩:=x;exact⟨mA,⟨od,es,ep,k _ _ (.inl rfl) e,c⟩,r⟩
 | rng lo hi=>obtain ⟨t,u,v,e⟩:=x;exact⟨t,u,v,k _ _ (.inl rfl) e⟩
 | frz ob u ih=>obtain ⟨e,q⟩:=x;exact⟨k _ _ (.inl rfl) e,ih q⟩
 | tbl ps=>
  have e:h.get? a=some {cls:=.none,data:=.fields ps}:=x
  show h'.get? a=some {cls:=.none,data:=.fields ps}
  exact k a _ (.inl rfl) e
 | met f y=>
  have e:h.get? a=some (PySem.W.methodObj (.ref f) (.ref y)):=x
  show h'.get? a=some (PySem.W.methodObj (.ref f) (.ref y))
  exact k a _ (.inl rfl) e
 | ext φ=>obtain ⟨p,⟨o,e⟩,st⟩:=x;exact⟨st _ _ p λo q=>k _ _ (.inl rfl) q,⟨o,k _ _ (.inl rfl) e⟩,st⟩
theorem HOk.lt (x:HOk P w H h)(e:H a=some o):a<h.objs.size:=(x a o e).lt
theorem HOk.fresh (x:HOk P w H h)(e:h.objs.size<=a):H a=none:=by
 cases q:H a with
 | none=>rfl
 | some u=>exact absurd (Ab6 (x.lt q) e) (Ad2 _)
theorem HOk.kept (x:HOk P w H h)(k:∀b u,h.get? b=some u->h'.get? b=some u):HOk P w H h':=λa o e=>
 (x a o e).stay (λb u _ q=>k b u q) (λ_ q=>q) λ_ _ q=>q
theorem HOk.laid (x:HOk P w H h)(k:∀b u,h.get? b=some u->h'.get? b=some u)(hp:h.objs.size<=a)(new:ObjOk P w (upd H a o) h' a o):HOk P w (upd H a o) h':=λb u e=>by
 have hn:=x.fresh hp
 by_cases hb:b=a
 ·subst hb;rw[C7]at e;cases e;exact new
 ·rw[B2 hb]at e;exact(x b u e).stay (λc v _ q=>k c v q) (λc q=>by rw[B2 (C5 q hn)];exact q) λc xs q=>by rw[B2 (C5 q hn)];exact q
end
def Rd (H:Hp)(a:Addr)(u:HO):Prop:=H a=some u\/∃o,H a=some (.frz o u)
theorem Rd.ok {P:Program}{w:World}{H:Hp}{h:Heap}{a:Addr}{u:HO}(r:Rd H a u)(x:HOk P w H h):ObjOk P w H h a u:=by
 rcases r with r | ⟨o,r⟩
 ·exact x a u r
 ·obtain ⟨_,q⟩:=x a _ r;exact q
def Mut:Option HO->Prop
 | some (.lst _)=>True
 | some (.dK _)=>True
 | some (.dT _)=>True
 | some (.set _ _)=>True
 | some (.ins _ _ _)=>True
 | some (.ext _)=>True
 | _=>False
section
variable {P:Program}{w:World}{H:Hp}{h h':Heap}{x e:Addr}{o':HO}
theorem HOk.write (ok:HOk P w H h)(mu:Mut (H x))(he:e=x\/H e=some (.own x))(k:∀b u,b≠e->h.get? b=some u->h'.get? b=some u)(heo:∃u,h'.get? e=some u)
  (new:ObjOk P w (upd H x o') h' x o'):HOk P w (upd H x o') h':=λb u q=>by
 have nown:∀c y,H c=some (.own y)->c≠x:=λc y r z=>by subst z;rw[r]at mu;exact mu
 have ntup:∀c xs,H c=some (.tup xs)->c≠x:=λc xs r z=>by subst z;rw[r]at mu;exact mu
 by_cases hb:b=x
 ·subst hb;rw[C7]at q;cases q;exact new
 ·rw[B2 hb]at q;by_cases hbe:b=e
  ·have q':H b=some (.own x):=by
    rcases he with z | z
    ·exact absurd (hbe.trans z) hb
    ·rw[hbe];exact z
   rw[q]at q';cases q';obtain ⟨v,hv⟩:=heo;exact⟨v,by rw[hbe];exact hv⟩
  ·refine(ok b u q).stay (λc v hc r=>k c v ?_ r) (λc r=>by rw[B2 (nown c b r)];exact r) λc xs r=>by rw[B2 (ntup c xs r)];exact r
   rcases hc with rfl | hc
   ·exact hbe
   ·rintro rfl;rcases he with z | z
    ·exact nown c b hc z
    ·rw[hc]at z;cases z;exact hb rfl
end
structure Un (fs ex:List Addr)(H H':Hp)(h h':Heap):Prop where
 keep:∀b o,h.get? b=some o->H b=none->b∉fs->b∉ex->h'.get? b=some o
 slot:∀b o,h.get? b=some o->H b=none->b∈fs->b∉ex->∃sl,h'.get? b=some {o with slots:=sl}
 free:∀b o,h.get? b=some o->H b=none->b∉ex->H' b=none
 there:∀b o,h.get? b=some o->b∉ex->∃o',h'.get? b=some o'
 tups:∀b xs,H b=some (.tup xs)->H' b=some (.tup xs)
 frzs:∀b o u,H b=some (.frz o u)->H' b=some (.frz o u)
 tbls:∀b ps,H b=some (.tbl ps)->∃more,H' b=some (.tbl (ps++more))
section
variable {fs fs' ex ex':List Addr}{H H1 H2:Hp}{h h1 h2 h':Heap}{a x e:Addr}{o:HO}
theorem Un.any (u:Un fs ex H H1 h h1){b:Addr}{ob:Obj}(q:h.get? b=some ob)(n:H b=none)(hx:b∉ex):∃sl,h1.get? b=some {ob with slots:=sl}:=by
 by_cases hb:b∈fs
 ·exact u.slot b ob q n hb hx
 ·exact⟨ob.slots,u.keep b ob q n hb hx⟩
theorem Un.kept (k:∀b u,h.get? b=some u->h'.get? b=some u):Un fs ex H H h h':=
 ⟨λb ob q _ _ _=>k b ob q,λb ob q _ _ _=>⟨ob.slots,k b ob q⟩,λ_ _ _ n _=>n,λb ob q _=>⟨ob,k b ob q⟩,λ_ _ q=>q,λ_ _ _ q=>q,λ_ ps q=>⟨#[],by rw[q];simp⟩⟩
theorem Un.refl:Un fs ex H H h h:=Un.kept λ_ _ q=>q
theorem Un.laid (k:∀b u,h.get? b=some u->h'.get? b=some u)(hp:h.objs.size<=a)(hn:H a=none):Un fs ex H (upd H a o) h h' where
 keep:=λb u q _ _ _=>k b u q
 slot:=λb u q _ _ _=>⟨u.slots,k b u q⟩
 free:=λb u q n _=>by rw[B2 (Ab7 (Ab6 (Ab2 q) hp))];exact n
 there:=λb u q _=>⟨u,k b u q⟩
 tups:=λb xs q=>by rw[B2 (C5 q hn)];exact q
 frzs:=λb u xs q=>by rw[B2 (C5 q hn)];exact q
 tbls:=λb ps q=>⟨#[],by rw[B2 (C5 q hn),q];simp⟩
theorem Un.write (mu:Mut (H x))(he:e=x\/H e=some (.own x))(k:∀b u,b≠e->h.get? b=some u->h'.get? b=some u)(heo:∃u,h'.get? e=some u):Un fs ex H (upd H x o) h h':=by
 have hx:∀b,H b=none->b≠x:=λb n z=>by subst z;rw[n]at mu;exact mu
 have hb:∀b,H b=none->b≠e:=λb n z=>by
  subst z;rcases he with r | r
  ·exact hx b n r
  ·rw[n]at r;cases r
 have hm:∀b u,H b=some u->¬Mut (some u)->b≠x:=λb u q nm z=>by subst z;rw[q]at mu;exact nm mu
 refine⟨λb u q n _ _=>k b u (hb b n) q,λb u q n _ _=>⟨u.slots,k b u (hb b n) q⟩,λb u q n _=>by rw[B2 (hx b n)];exact n,λb u q _=>?_,
  λb xs q=>by rw[B2 (hm b _ q λz=>z)];exact q,λb u xs q=>by rw[B2 (hm b _ q λz=>z)];exact q,λb ps q=>⟨#[],by rw[B2 (hm b _ q λz=>z),q];simp⟩⟩
 by_cases hbe:b=e
 ·subst hbe;exact heo
 ·exact⟨u,k b u hbe q⟩
end
def trk (h:Heap)(H:Hp):List Addr:=(List.range h.objs.size).filter λa=>(H a).isSome
def aI5 (h:Heap)(H:Hp):Heap:=PySem.W.hideAll h (trk h H)
theorem aX0 (h:Heap)(H:Hp):(aI5 h H).objs.size=h.objs.size:=PySem.W.hideAll_size _ _
theorem bF5 {h:Heap}{H:Hp}{b:Addr}{o:Obj}(e:h.get? b=some o)(n:H b=none):(aI5 h H).get? b=some o:=
 PySem.W.hideAll_get _ e λhm=>by
  have q:(H b).isSome=true:=(List.mem_filter.mp hm).2
  rw[n]at q;simp at q
theorem bJ6 {h:Heap}{H:Hp}{b:Addr}{o:Obj}(e:(aI5 h H).get? b=some o):h.get? b=some o/\H b=none:=by
 have e':h.get? b=some o:=PySem.W.of_hideAll (trk h H) e
 refine⟨e',?_⟩;cases q:H b with
 | none=>rfl
 | some x=>
  have hm:b∈trk h H:=List.mem_filter.mpr ⟨Ab4.mpr (Ab2 e'),by simp[q]⟩
  have z:(aI5 h H).get? b=none:=PySem.W.hideAll_none (trk h H) hm
  rw[z]at e;cases e
structure Mod (K:PySem.W.Frag)(mg:Str->Option Value)(base:Heap):Prop where
 kin:K.In base
 glob:base.Ns mainGlobals mg
 blt:∃mb,base.Ns builtinsNs mb/\∀x:Str,x≠"__name__" -> mb x=bootBuiltins x
 nolimit:base.NoLimit
structure Cx where
 prog:Program
 w:World
 K:PySem.W.Frag
 mg:Str->Option Value
 base:Heap
 A:Around
 N:List Str
 s₀:Shared
 H₀:Hp
 env:Env
 outer:List Env
 stack:List Env
 ex:List Addr
 fn:Str->Bool
 calm:Bool
 pn:List (Addr×Obj)
 xe:Value->Shared->Prop
def frs (l:List Env):List Addr:=l.filterMap (·.frame)
abbrev Cx.fs (X:Cx):List Addr:=frs X.outer
def Vis (sc:Scope)(x:Str):Prop:=sc.names.lookup x=some .local\/sc.names.lookup x=some .cell\/sc.names.lookup x=some .free
def Loc (sc:Scope)(x:Str):Prop:=sc.names.lookup x=some .local\/sc.names.lookup x=some .cell
def bY1 (env:Env)(h:Heap)(m:Str->Option Value)(x:Str)(u:Value):Prop:=
 (env.kindOf x=some .local/\m x=some u)\/((env.kindOf x=some .cell\/env.kindOf x=some .free)/\∃c,env.cells.lookup x=some c/\h.IsCell c (some u))
structure Cx.Ok (X:Cx):Prop where
 mod:Mod X.K X.mg X.base
 kind:X.env.scope.kind=.function
 glob:X.env.globals=mainGlobals
 blt:X.env.builtins=builtinsNs
 above:X.s₀.heap.objs.size<=X.env.locals
 inj:∀x y c,X.env.cells.lookup x=some c->X.env.cells.lookup y=some c->x=y
 has:∀x,(X.env.kindOf x=some .cell\/X.env.kindOf x=some .free)->∃c,X.env.cells.lookup x=some c
 cab:∀x c,X.fn x=true->X.env.cells.lookup x=some c->X.s₀.heap.objs.size<=c
 hd:X.calm=true->X.A.handled=none
 frames:X.A.frames=some X.stack
 stk:X.stack=X.outer\/(X.stack=X.env::X.outer/\X.env.frame=some X.env.locals)
 exf:∀b∈X.ex,b≠X.env.locals/\∀x c,X.env.cells.lookup x=some c->c≠b
 bs:∀b o,X.base.get? b=some o->X.s₀.heap.get? b=some o/\X.H₀ b=none
 bsz:X.base.objs.size<=X.s₀.heap.objs.size
 noex:∀b o,X.base.get? b=some o->b∉X.ex
 exfs:∀b∈X.ex,b∉X.fs
 funs:X.s₀.heap.FunFrames X.base X.outer
 frf:∀b∈X.fs,X.H₀ b=none
structure Inv (X:Cx)(pins:List (Addr×Obj))(σ:List (Option V))(H:Hp)(s:Shared):Prop where
 ok:X.Ok
 os:s.os=X.s₀.os
 bare:AllBare s.gens
 base:Un X.fs X.ex X.H₀ H X.s₀.heap s.heap
 loc:∃m,s.heap.Ns X.env.locals m/\∀(i:Nat) (x:Str) (v:V),X.N[i]? = some x->σ[i]? = some (some v)->Vis X.env.scope x->∃u,RelV v u/\bY1 X.env s.heap m x u
 cell:∀x c,X.env.cells.lookup x=some c->∃v,s.heap.IsCell c v
 free:H X.env.locals=none
 freeC:∀x c,X.env.cells.lookup x=some c->H c=none
 pin:∀p∈X.pn++pins,s.heap.get? p.1=some p.2/\H p.1=none/\p.1≠X.env.locals/\p.1∉X.fs/\∀v,p.2.data≠.cell v
 hok:HOk X.prog X.w H s.heap
 len:σ.length=X.N.length
section
variable {X:Cx}{pins:List (Addr×Obj)}{σ:List (Option V)}{H H':Hp}{s:Shared}{h':Heap}
theorem Cx.Ok.nofr (ok:X.Ok){b:Addr}{o:Obj}(e:X.base.get? b=some o):b∉X.fs:=λhb=>by
 have:=(ok.funs.mem hb).1
 rw[e]at this;cases this
theorem Inv.bs (I:Inv X pins σ H s):∀b o,X.base.get? b=some o->s.heap.get? b=some o/\H b=none:=λb o e=>
 ⟨I.base.keep b o (I.ok.bs b o e).1 (I.ok.bs b o e).2 (I.ok.nofr e) (I.ok.noex b o e),I.base.free b o (I.ok.bs b o e).1 (I.ok.bs b o e).2 (I.ok.noex b o e)⟩
theorem Inv.bk (I:Inv X pins σ H s):∀b o,X.base.get? b=some o->s.heap.get? b=some o:=λb o e=>(I.bs b o e).1
theorem Inv.mod (I:Inv X pins σ H s):Mod X.K X.mg X.base:=I.ok.mod
theorem Inv.kIn (I:Inv X pins σ H s):X.K.In s.heap:=I.ok.mod.kin.keeps I.bk
theorem Inv.lt (I:Inv X pins σ H s):X.env.locals<s.heap.objs.size:=let ⟨_,hn,_⟩:=I.loc;hn.lt
theorem Inv.sz (I:Inv X pins σ H s):X.s₀.heap.objs.size<=s.heap.objs.size:=Nat.le_trans I.ok.above (Nat.le_of_lt I.lt)
theorem Inv.nofs (I:Inv X pins σ H s){a:Addr}(h:s.heap.objs.size<=a):a∉X.fs:=λhb=>by
 obtain ⟨_,o,ho,_⟩:=I.ok.funs.mem hb;exact absurd (Ab6 (Ab2 ho) (Nat.le_trans I.sz h)) (Ad2 _)
theorem Inv.cne (I:Inv X pins σ H s):∀x c,X.env.cells.lookup x=some c->c≠X.env.locals:=λx c e z=>by
 obtain ⟨v,o,ho,hd⟩:=I.cell x c e;obtain ⟨m,⟨o',es,ep,ho',hd',_⟩,_⟩:=I.loc;rw[z,ho']at ho;cases ho;rw[hd']at hd;cases hd
theorem Inv.funs (I:Inv X pins σ H s):s.heap.FunFrames X.base X.outer:=by
 have all:∀(l:List Env),(∀b∈frs l,b∈X.fs)->X.s₀.heap.FunFrames X.base l->s.heap.FunFrames X.base l:=by
  intro l;induction l with
  | nil=>intro _ _;trivial
  | cons env r ih=>
   intro hs hl;obtain ⟨hk,⟨L,o,hf,hn,ho,hd⟩,hr⟩:=hl;have hL:L∈X.fs:=hs L (by unfold frs;rw[List.filterMap_cons,hf];exact List.mem_cons_self)
   obtain ⟨sl,e⟩:=I.base.slot L o ho (I.ok.frf L hL) hL λz=>I.ok.exfs L z hL
   exact⟨hk,⟨L,_,hf,hn,e,hd⟩,ih (λb hb=>hs b (by unfold frs;rw[List.filterMap_cons,hf];exact Ac8 _ hb)) hr⟩
 exact all X.outer (λ_ hb=>hb) I.ok.funs
theorem Inv.stack (I:Inv X pins σ H s):s.heap.FunFrames X.base X.stack:=by
 rcases I.ok.stk with e | ⟨e,hf⟩
 ·rw[e];exact I.funs
 ·rw[e];obtain ⟨m,hn,_⟩:=I.loc;refine .cons (by rw[I.ok.kind];decide) hf hn ?_ I.funs
  exact Heap.get?_none_of_le (Nat.le_trans I.ok.bsz I.ok.above)
theorem Inv.stkSub (I:Inv X pins σ H s):∀b∈frs X.stack,b∈X.env.locals::X.fs:=λb hb=>by
 rcases I.ok.stk with e | ⟨e,hf⟩
 ·rw[e]at hb;exact Ac8 _ hb
 ·rw[e]at hb;unfold frs at hb;rw[List.filterMap_cons,hf]at hb;exact hb
theorem Inv.stkFree (I:Inv X pins σ H s):∀b∈frs X.stack,H b=none:=λb hb=>by
 rcases Aa1.mp (I.stkSub b hb) with e | hb
 ·rw[e];exact I.free
 ·obtain ⟨_,o,ho,_⟩:=I.ok.funs.mem hb;exact I.base.free b o ho (I.ok.frf b hb) λz=>I.ok.exfs b z hb
theorem Inv.step {g':Array GenState}{t':Nat}{d':Drawn}{ch:List Addr}(I:Inv X pins σ H s)
  (hch:∀b∈ch,(b∈X.ex\/X.s₀.heap.objs.size<=b)/\b≠X.env.locals/\(∀x c,X.env.cells.lookup x=some c->c≠b)/\∀p∈X.pn++pins,p.1≠b)
  (keep:∀b o,b≠X.env.locals->b∉X.fs->b∉ch->s.heap.get? b=some o->H b=none->h'.get? b=some o)
  (slot:∀b o,b≠X.env.locals->b∈X.fs->b∉ch->s.heap.get? b=some o->H b=none->∃sl,h'.get? b=some {o with slots:=sl}) (free:∀b o,b∉ch->s.heap.get? b=some o->H b=none->H' b=none)
  (there:∀b o,b∉ch->s.heap.get? b=some o->∃o',h'.get? b=some o')
  (tups:∀b xs,H b=some (.tup xs)->H' b=some (.tup xs)) (frzs:∀b o u,H b=some (.frz o u)->H' b=some (.frz o u)) (tbls:∀b ps,H b=some (.tbl ps)->∃more,H' b=some (.tbl (ps++more)))
  (ns:∀m,s.heap.Ns X.env.locals m->h'.Ns X.env.locals m) (hok:HOk X.prog X.w H' h') (hg:AllBare g') :
  Inv X pins σ H' {s with heap:=h',gens:=g',drawn:=d',toks:=t'}:=by
 have neL:∀b o,X.s₀.heap.get? b=some o->b≠X.env.locals:=λb o e=>Ab7 (Ab6 (Ab2 e) I.ok.above)
 have neC:∀b o,X.s₀.heap.get? b=some o->b∉X.ex->b∉ch:=λb o e hx hb=>by
  rcases (hch b hb).1 with z | z
  ·exact hx z
  ·exact absurd (Ab6 (Ab2 e) z) (Ad2 _)
 have cellK:∀x c,X.env.cells.lookup x=some c->∀v,s.heap.IsCell c v->h'.IsCell c v:=λx c e v ⟨o,ho,hd⟩=>by
  have nch:c∉ch:=λz=>(hch c z).2.2.1 x c e rfl
  by_cases hc:c∈X.fs
  ·obtain ⟨sl,q⟩:=slot c o (I.cne x c e) hc nch ho (I.freeC x c e);exact⟨_,q,hd⟩
  ·exact⟨o,keep c o (I.cne x c e) hc nch ho (I.freeC x c e),hd⟩
 refine⟨I.ok,I.os,hg,⟨λb o e n hb hx=>?_,λb o e n hb hx=>?_,λb o e n hx=>?_,λb o e hx=>?_,λb xs e=>tups b xs (I.base.tups b xs e),λb o xs e=>frzs b o xs (I.base.frzs b o xs e),λb ps e=>?_⟩,?_,λx c e=>?_,?_,λx c e=>?_,λp hp=>?_,hok,I.len⟩
 ·exact keep b o (neL b o e) hb (neC b o e hx) (I.base.keep b o e n hb hx) (I.base.free b o e n hx)
 ·obtain ⟨sl,e1⟩:=I.base.slot b o e n hb hx;obtain ⟨sl',e2⟩:=slot b _ (neL b o e) hb (neC b o e hx) e1 (I.base.free b o e n hx);exact⟨sl',e2⟩
 ·obtain ⟨o',e1⟩:=I.base.there b o e hx;exact free b o' (neC b o e hx) e1 (I.base.free b o e n hx)
 ·obtain ⟨o',e1⟩:=I.base.there b o e hx;exact there b o' (neC b o e hx) e1
 ·obtain ⟨m1,e1⟩:=I.base.tbls b ps e;obtain ⟨m2,e2⟩:=tbls b _ e1;exact⟨m1++m2,by rw[e2,Array.append_assoc]⟩
 ·obtain ⟨m,hn,hl⟩:=I.loc;refine⟨m,ns m hn,λi x v e1 e2 e3=>?_⟩
  obtain ⟨u,r,l⟩:=hl i x v e1 e2 e3;refine⟨u,r,?_⟩;rcases l with l | ⟨k,c,e,z⟩
  ·exact .inl l
  ·exact .inr ⟨k,c,e,cellK x c e _ z⟩
 ·obtain ⟨v,z⟩:=I.cell x c e;exact⟨v,cellK x c e v z⟩
 ·obtain ⟨m,⟨o,_,_,ho,_⟩,_⟩:=I.loc;exact free _ o (λz=>(hch _ z).2.1 rfl) ho I.free
 ·obtain ⟨v,o,ho,hd⟩:=I.cell x c e;exact free c o (λz=>(hch c z).2.2.1 x c e rfl) ho (I.freeC x c e)
 ·obtain ⟨e,n,ne,nf,d⟩:=I.pin p hp;have nch:p.1∉ch:=λz=>(hch p.1 z).2.2.2 p hp rfl
  exact⟨keep p.1 p.2 ne nf nch e n,free p.1 p.2 nch e n,ne,nf,d⟩
theorem Inv.un {t':Nat}(I:Inv X pins σ H s)(u:Un X.fs [] H H' s.heap h')(hok:HOk X.prog X.w H' h'):Inv X pins σ H' {s with heap:=h',toks:=t'}:=by
 obtain ⟨m,⟨o,es,ep,ho,r⟩,_⟩:=id I.loc;obtain ⟨sl,hL⟩:=u.any ho I.free (by simp)
 exact I.step (g':=s.gens) (d':=s.drawn) (ch:=[]) (λ_ z=>nomatch z) (λb o _ hb _ e n=>u.keep b o e n hb (by simp)) (λb o _ hb _ e n=>u.slot b o e n hb (by simp)) (λb o _ e n=>u.free b o e n (by simp)) (λb o _ e=>u.there b o e (by simp)) u.tups u.frzs u.tbls (λm' hm=>by
  obtain ⟨o',es',ep',ho',r'⟩:=hm;rw[ho]at ho';cases ho';exact⟨_,es',ep',hL,r'⟩) hok I.bare
theorem Inv.call {g':Array GenState}{t':Nat}{d':Drawn}{ch:List Addr}(I:Inv X pins σ H s)(u:Un (frs X.stack) ch H H' s.heap h')(hok:HOk X.prog X.w H' h')(hg:AllBare g')
  (hch:∀b∈ch,(b∈X.ex\/X.s₀.heap.objs.size<=b)/\b≠X.env.locals/\(∀x c,X.env.cells.lookup x=some c->c≠b)/\∀p∈X.pn++pins,p.1≠b) :
  Inv X pins σ H' {s with heap:=h',gens:=g',drawn:=d',toks:=t'}:=by
 obtain ⟨m,⟨o,es,ep,ho,r⟩,_⟩:=id I.loc;obtain ⟨sl,hL⟩:=u.any ho I.free λz=>(hch _ z).2.1 rfl
 exact I.step (ch:=ch) hch (λb o hL hb hc e n=>u.keep b o e n (λz=>(Aa1.mp (I.stkSub b z)).elim hL hb) hc) (λb o _ _ hc e n=>u.any e n hc) (λb o hc e n=>u.free b o e n hc) (λb o hc e=>u.there b o e hc) u.tups u.frzs u.tbls (λm' hm=>by
  obtain ⟨o',es',ep',ho',r'⟩:=hm;rw[ho]at ho';cases ho';exact⟨_,es',ep',hL,r'⟩) hok hg
theorem Inv.turned {t':Nat}{it:Addr}(I:Inv X pins σ H s)(k:∀b o,b≠it->s.heap.get? b=some o->h'.get? b=some o)(hn:H it=none)(hL:it≠X.env.locals)
  (h1:it∈X.ex\/X.s₀.heap.objs.size<=it) (h2:∀x c,X.env.cells.lookup x=some c->c≠it) (h3:∀p∈X.pn++pins,p.1≠it):Inv X pins σ H {s with heap:=h',toks:=t'}:=by
 have nit:∀b u,H b=some u->b≠it:=λb u e z=>by rw[z,hn]at e;cases e
 refine I.step (g':=s.gens) (d':=s.drawn) (ch:=[it]) (λb hb=>?_) (λb o _ _ hc e _=>k b o (λz=>hc (by simp[z])) e) (λb o _ _ hc e _=>⟨o.slots,k b o (λz=>hc (by simp[z])) e⟩) (λ_ _ _ _ n=>n)
  (λb o hc e=>⟨o,k b o (λz=>hc (by simp[z])) e⟩) (λ_ _ e=>e) (λ_ _ _ e=>e) (λb ps e=>⟨#[],by rw[e];simp⟩) (λm hm=>?_) (λb u e=>?_) I.bare
 ·have e:b=it:=by simpa using hb
  subst e;exact⟨h1,hL,h2,h3⟩
 ·obtain ⟨o,es,ep,ho,r⟩:=hm;exact⟨o,es,ep,k _ o (Ne.symm hL) ho,r⟩
 ·refine(I.hok b u e).stay (λc v hc q=>k c v ?_ q) (λ_ q=>q) λ_ _ q=>q
  rcases hc with z | z
  ·rw[z];exact nit b u e
  ·exact nit c _ z
theorem Inv.tok (I:Inv X pins σ H s)(t:Nat):Inv X pins σ H {s with toks:=t}:=I.un (h':=s.heap) (t':=t) Un.refl I.hok
theorem Inv.kept {t':Nat}(I:Inv X pins σ H s)(k:∀b u,s.heap.get? b=some u->h'.get? b=some u):Inv X pins σ H {s with heap:=h',toks:=t'}:=I.un (Un.kept k) (I.hok.kept k)
theorem Inv.laid {a:Addr}{o:HO}{t':Nat}(I:Inv X pins σ H s)(k:∀b u,s.heap.get? b=some u->h'.get? b=some u)(hp:s.heap.objs.size<=a)(new:ObjOk X.prog X.w (upd H a o) h' a o) :
  Inv X pins σ (upd H a o) {s with heap:=h',toks:=t'}:=I.un (Un.laid k hp (I.hok.fresh hp)) (I.hok.laid k hp new)
theorem Inv.write {x e:Addr}{o:HO}{t':Nat}(I:Inv X pins σ H s)(mu:Mut (H x))(he:e=x\/H e=some (.own x))(k:∀b u,b≠e->s.heap.get? b=some u->h'.get? b=some u)(heo:∃u,h'.get? e=some u)
  (new:ObjOk X.prog X.w (upd H x o) h' x o):Inv X pins σ (upd H x o) {s with heap:=h',toks:=t'}:=I.un (Un.write mu he k heo) (I.hok.write mu he k heo new)
theorem Inv.weak {σ':List (Option V)}(I:Inv X pins σ H s)(hl:σ'.length=σ.length)(w:∀(i:Nat) v,σ'[i]? = some (some v)->σ[i]? = some (some v)):Inv X pins σ' H s:=
 ⟨I.ok,I.os,I.bare,I.base,let ⟨m,hn,hl'⟩:=I.loc;⟨m,hn,λi x v e1 e2 e3=>hl' i x v e1 (w i v e2) e3⟩,I.cell,I.free,I.freeC,I.pin,I.hok,hl.trans I.len⟩
theorem Inv.pins_of {pins':List (Addr×Obj)}(I:Inv X pins σ H s)(h:∀p∈pins',s.heap.get? p.1=some p.2/\H p.1=none/\p.1≠X.env.locals/\p.1∉X.fs/\∀v,p.2.data≠.cell v):Inv X pins' σ H s:=
 ⟨I.ok,I.os,I.bare,I.base,I.loc,I.cell,I.free,I.freeC,λp hp=>(Aa0.mp hp).elim (λz=>I.pin p (List.mem_append_left _ z)) (h p),I.hok,I.len⟩
theorem aN7 {N:List Str}(hN:N.Nodup){i j:Nat}{x:Str}(a:N[i]? = some x)(b:N[j]? = some x):i=j:=by
 obtain ⟨h1,e1⟩:=Aa9.mp a;obtain ⟨h2,e2⟩:=Aa9.mp b;exact(List.getElem_inj hN).mp (e1.trans e2.symm)
theorem aE6 {M:Model}{A:Around}{E:Value->Shared->Prop}{i:Nat}{x:Str}{v:V}{u:Value}{Q:Unit->Shared->Prop}(I:Inv X pins σ H s)(hN:X.N.Nodup)(hi:X.N[i]? = some x)(hx:Loc X.env.scope x)(r:RelV v u)
  (h:∀s',Inv X pins (σ.set i (some v)) H s'->(∃a,Heap.SameBut a s.heap s'.heap/\(a=X.env.locals\/X.env.cells.lookup x=some a))->Q () s') (hf:X.fn x=true\/X.env.scope.names.lookup x=some .local:=by first | exact .inl rfl | exact .inr rfl | assumption):wpAny M A (storeName X.env x u) Q E s:=by
 obtain ⟨m,hn,hl⟩:=id I.loc;have hcls:(X.env.scope.kind == .class||(X.env.scope.kind == .module&&X.env.locals != X.env.globals))=false:=by rw[I.ok.kind];rfl
 have hiσ:i<σ.length:=by rw[I.len];exact(Aa9.mp hi).1
 have cne:=I.cne
 have tracked:∀{a:Addr} {h':Heap},(∃o,s.heap.get? a=some o/\H a=none)->Heap.SameBut a s.heap h'->HOk X.prog X.w H h':=λ{a h'} ha hs b ob e=>by
  obtain ⟨_,_,hfree⟩:=ha;refine(I.hok b ob e).stay (λc w' hc q=>(hs.2 c ?_).trans q) (λ_ q=>q) λ_ _ q=>q
  rintro rfl;rcases hc with rfl | hc
  ·rw[hfree]at e;cases e
  ·rw[hfree]at hc;cases hc
 rcases hx with hk | hk
 ·refine wpAny_storeName_local hk hn (λh' hn' hs=>?_) hcls
  obtain ⟨oL,_,_,hoL,_⟩:=id hn;refine h _ ⟨I.ok,I.os,I.bare,⟨λb o e n hb hx=>?_,λb o e n hb hx=>?_,I.base.free,λb o e hx=>?_,I.base.tups,I.base.frzs,I.base.tbls⟩,⟨_,hn',λj y v' e1 e2 e3=>?_⟩,λy c e=>?_,I.free,I.freeC,λp hp=>?_,tracked ⟨oL,hoL,I.free⟩ hs,by simpa using I.len⟩ ⟨_,hs,.inl rfl⟩
  ·exact(hs.2 b (Ab7 (Ab6 (Ab2 e) I.ok.above))).trans (I.base.keep b o e n hb hx)
  ·obtain ⟨sl,e1⟩:=I.base.slot b o e n hb hx;exact⟨sl,(hs.2 b (Ab7 (Ab6 (Ab2 e) I.ok.above))).trans e1⟩
  ·obtain ⟨o',e1⟩:=I.base.there b o e hx;exact⟨o',(hs.2 b (Ab7 (Ab6 (Ab2 e) I.ok.above))).trans e1⟩
  ·by_cases hj:j=i
   ·subst hj;rw[hi]at e1;cases e1;rw[List.getElem?_set_self hiσ]at e2;cases e2;exact⟨u,r,.inl ⟨hk,by simp⟩⟩
   ·rw[Ac5 (Ne.symm hj)]at e2;obtain ⟨u',r',q⟩:=hl j y v' e1 e2 e3;refine⟨u',r',?_⟩;rcases q with ⟨k,e⟩ | ⟨k,c,e,z⟩
    ·refine .inl ⟨k,?_⟩
     have:y≠x:=λe=>hj (aN7 hN e1 (e▸hi))
     simp[this,e]
    ·exact .inr ⟨k,c,e,z.sameBut hs (cne y c e)⟩
  ·obtain ⟨w',z⟩:=I.cell y c e;exact⟨w',z.sameBut hs (cne y c e)⟩
  ·obtain ⟨e,n,ne,nf,d⟩:=I.pin p hp;exact⟨(hs.2 p.1 ne).trans e,n,ne,nf,d⟩
 ·have hfn:X.fn x=true:=by
   rcases hf with z | z
   ·exact z
   ·rw[z]at hk;cases hk
  obtain ⟨c,hc⟩:=I.ok.has x (.inl hk);obtain ⟨w',z⟩:=I.cell x c hc;refine wpAny_storeName_cell I.ok.kind hk hc z (λh' hc' hs=>?_)
  obtain ⟨oc,hoc,hocd⟩:=id z;refine h {s with heap:=h'} ⟨I.ok,I.os,I.bare,⟨λb o e n hb hx=>?_,λb o e n hb hx=>?_,I.base.free,λb o e hx=>?_,I.base.tups,I.base.frzs,I.base.tbls⟩,⟨m,hn.sameBut hs (Ne.symm (cne x c hc)),λj y v' e1 e2 e3=>?_⟩,λy c' e=>?_,I.free,I.freeC,λp hp=>?_,tracked ⟨oc,hoc,I.freeC x c hc⟩ hs,by simpa using I.len⟩ ⟨c,hs,.inr hc⟩
  ·exact(hs.2 b (Ab7 (Ab6 (Ab2 e) (I.ok.cab x c hfn hc)))).trans (I.base.keep b o e n hb hx)
  ·obtain ⟨sl,e1⟩:=I.base.slot b o e n hb hx;exact⟨sl,(hs.2 b (Ab7 (Ab6 (Ab2 e) (I.ok.cab x c hfn hc)))).trans e1⟩
  ·obtain ⟨o',e1⟩:=I.base.there b o e hx;exact⟨o',(hs.2 b (Ab7 (Ab6 (Ab2 e) (I.ok.cab x c hfn hc)))).trans e1⟩
  ·by_cases hj:j=i
   ·subst hj;rw[hi]at e1;cases e1;rw[List.getElem?_set_self hiσ]at e2;cases e2;exact⟨u,r,.inr ⟨.inl hk,c,hc,hc'⟩⟩
   ·rw[Ac5 (Ne.symm hj)]at e2;obtain ⟨u',r',q⟩:=hl j y v' e1 e2 e3;refine⟨u',r',?_⟩;rcases q with q | ⟨k,c',e,z'⟩
    ·exact .inl q
    ·refine .inr ⟨k,c',e,z'.sameBut hs ?_⟩;rintro rfl;exact hj (aN7 hN e1 (I.ok.inj _ _ _ e hc▸hi))
  ·by_cases hcc:c'=c
   ·subst hcc;exact⟨_,hc'⟩
   ·obtain ⟨w2,z2⟩:=I.cell y c' e;exact⟨w2,z2.sameBut hs hcc⟩
  ·obtain ⟨e,n,ne,nf,d⟩:=I.pin p hp;refine⟨(hs.2 p.1 ?_).trans e,n,ne,nf,d⟩;intro q;rw[q,hoc]at e;have q':oc=p.2:=Ab3 e;exact d w' (by rw[<- q'];exact hocd)
theorem aA1 {M:Model}{A:Around}{E:Value->Shared->Prop}{i:Nat}{x:Str}{v:V}{u:Value}{Q:Unit->Shared->Prop}(I:Inv X pins σ H s)(hN:X.N.Nodup)(hi:X.N[i]? = some x)(hx:Loc X.env.scope x)(r:RelV v u)
  (h:∀s',Inv X pins (σ.set i (some v)) H s'->Q () s') (hf:X.fn x=true\/X.env.scope.names.lookup x=some .local:=by first | exact .inl rfl | exact .inr rfl | assumption):wpAny M A (storeName X.env x u) Q E s:=
 aE6 I hN hi hx r (λs' I' _=>h s' I') hf
theorem Inv.call' {s':Shared}{ch:List Addr}(I:Inv X pins σ H s)(ho:s'.os=s.os)(u:Un (frs X.stack) ch H H' s.heap s'.heap)(hok:HOk X.prog X.w H' s'.heap)(hg:AllBare s'.gens)
  (hch:∀b∈ch,(b∈X.ex\/X.s₀.heap.objs.size<=b)/\b≠X.env.locals/\(∀x c,X.env.cells.lookup x=some c->c≠b)/\∀p∈X.pn++pins,p.1≠b):Inv X pins σ H' s':=by
 obtain ⟨h',g',d',t',o'⟩:=s';have e:o'=s.os:=ho;subst e;exact I.call (g':=g') (t':=t') (d':=d') u hok hg hch
end
abbrev XK:=Value->Option Addr->Hp->Prop
abbrev St:=List (Option V)
abbrev VK:=V->Hp->Prop
abbrev TE:=St->Hp->VK->Prop
abbrev TT:=St->Hp->(Bool->Hp->Prop)->Prop
abbrev TA:=St->Hp->(List V->Hp->Prop)->Prop
structure v9 where
 nx:St->Hp->Prop
 rt:VK
 bk:St->Hp->Prop:=λ_ _=>False
 ct:St->Hp->Prop:=λ_ _=>False
abbrev TS:=v9->St->Hp->Prop
def EP (X:Cx)(pins:List (Addr×Obj))(σ:St)(Q:VK)(u:Value)(s':Shared):Prop:=∃v H',Inv X pins σ H' s'/\RelV v u/\Q v H'
def TP (X:Cx)(pins:List (Addr×Obj))(σ:St)(Q:Bool->Hp->Prop)(b:Bool)(s':Shared):Prop:=∃H',Inv X pins σ H' s'/\Q b H'
def AP (X:Cx)(pins:List (Addr×Obj))(σ:St)(Q:List V->Hp->Prop)(us:List Value)(s':Shared):Prop:=∃vs H',Inv X pins σ H' s'/\Vals vs us/\Q vs H'
def SP (X:Cx)(pins:List (Addr×Obj))(D:v9)(f:Flow)(s':Shared):Prop:=
 match f with
 | .next=>∃σ' H',Inv X pins σ' H' s'/\D.nx σ' H'
 | .brk=>∃σ' H',Inv X pins σ' H' s'/\D.bk σ' H'
 | .cont=>∃σ' H',Inv X pins σ' H' s'/\D.ct σ' H'
 | .ret u=>∃v σ' H',Inv X pins σ' H' s'/\RelV v u/\D.rt v H'
structure PE (X:Cx)(e:Expr)(t:TE):Prop where
 mk ::
 run :
  ∀(pins:List (Addr×Obj)) (s:Shared) (σ:St) (H:Hp) (Q:VK),Inv X pins σ H s->t σ H Q->wpAny (model X.prog X.w) X.A (eval e X.env) (EP X pins σ Q) X.xe s
instance {X:Cx} {e:Expr} {t:TE}:CoeFun (PE X e t) λ_=>
 (∀(pins:List (Addr×Obj)) (s:Shared) (σ:St) (H:Hp) (Q:VK),Inv X pins σ H s->t σ H Q->wpAny (model X.prog X.w) X.A (eval e X.env) (EP X pins σ Q) X.xe s):=⟨PE.run⟩
structure PT (X:Cx)(e:Expr)(t:TT):Prop where
 mk ::
 run :
  ∀(pins:List (Addr×Obj)) (s:Shared) (σ:St) (H:Hp) (Q:Bool->Hp->Prop),Inv X pins σ H s->t σ H Q->wpAny (model X.prog X.w) X.A (isTrue e X.env (eval e X.env)) (TP X pins σ Q) X.xe s
instance {X:Cx} {e:Expr} {t:TT}:CoeFun (PT X e t) λ_=>
 (∀(pins:List (Addr×Obj)) (s:Shared) (σ:St) (H:Hp) (Q:Bool->Hp->Prop),Inv X pins σ H s->t σ H Q->wpAny (model X.prog X.w) X.A (isTrue e X.env (eval e X.env)) (TP X pins σ Q) X.xe s):=⟨PT.run⟩
structure PW (X:Cx)(e:Expr)(t:TT):Prop where
 mk ::
 run :
  ∀(whole:Sem Value) (pins:List (Addr×Obj)) (s:Shared) (σ:St) (H:Hp) (Q:Bool->Hp->Prop),Inv X pins σ H s->t σ H Q->wpAny (model X.prog X.w) X.A (isTrue e X.env whole) (TP X pins σ Q) X.xe s
instance {X:Cx} {e:Expr} {t:TT}:CoeFun (PW X e t) λ_=>
 (∀(whole:Sem Value) (pins:List (Addr×Obj)) (s:Shared) (σ:St) (H:Hp) (Q:Bool->Hp->Prop),Inv X pins σ H s->t σ H Q->wpAny (model X.prog X.w) X.A (isTrue e X.env whole) (TP X pins σ Q) X.xe s):=⟨PW.run⟩
theorem PW.pt {X:Cx}{e:Expr}{t:TT}(h:PW X e t):PT X e t:=⟨h _⟩
structure PA (X:Cx)(es:List Expr)(t:TA):Prop where
 mk ::
 run :
  ∀(pos:Pos) (pins:List (Addr×Obj)) (s:Shared) (σ:St) (H:Hp) (Q:List V->Hp->Prop),Inv X pins σ H s->t σ H Q->wpAny (model X.prog X.w) X.A (spliced (backTo pos (starEach es X.env))) (AP X pins σ Q) X.xe s
instance {X:Cx} {es:List Expr} {t:TA}:CoeFun (PA X es t) λ_=>
 (∀(pos:Pos) (pins:List (Addr×Obj)) (s:Shared) (σ:St) (H:Hp) (Q:List V->Hp->Prop),Inv X pins σ H s->t σ H Q->wpAny (model X.prog X.w) X.A (spliced (backTo pos (starEach es X.env))) (AP X pins σ Q) X.xe s):=⟨PA.run⟩
structure PS (X:Cx)(st:Stmt)(t:TS):Prop where
 mk ::
 run :
  ∀(pins:List (Addr×Obj)) (s:Shared) (σ:St) (H:Hp) (D:v9),Inv X pins σ H s->t D σ H->wpAny (model X.prog X.w) X.A (exec st X.env) (SP X pins D) X.xe s
instance {X:Cx} {st:Stmt} {t:TS}:CoeFun (PS X st t) λ_=>
 (∀(pins:List (Addr×Obj)) (s:Shared) (σ:St) (H:Hp) (D:v9),Inv X pins σ H s->t D σ H->wpAny (model X.prog X.w) X.A (exec st X.env) (SP X pins D) X.xe s):=⟨PS.run⟩
structure PSs (X:Cx)(st:List Stmt)(t:TS):Prop where
 mk ::
 run :
  ∀(pins:List (Addr×Obj)) (s:Shared) (σ:St) (H:Hp) (D:v9),Inv X pins σ H s->t D σ H->wpAny (model X.prog X.w) X.A (execs st X.env) (SP X pins D) X.xe s
instance {X:Cx} {st:List Stmt} {t:TS}:CoeFun (PSs X st t) λ_=>
 (∀(pins:List (Addr×Obj)) (s:Shared) (σ:St) (H:Hp) (D:v9),Inv X pins σ H s->t D σ H->wpAny (model X.prog X.w) X.A (execs st X.env) (SP X pins D) X.xe s):=⟨PSs.run⟩
theorem thn {α:Type}{t:Sem α}{Q Q':α->Shared->Prop}{M:Model}{A:Around}{E:Value->Shared->Prop}{s:Shared}(h:wpAny M A t Q E s)(hQ:∀a s,Q a s->Q' a s):wpAny M A t Q' E s:=wpAny_mono h hQ λ_ _ x=>x
section
variable {X:Cx}
def K8 (i:Nat):TE:=λσ H Q=>∃v,σ[i]? = some (some v)/\Q v H
def tC (v:V):TE:=λ_ H Q=>Q v H
theorem bT4 {i:Nat}{x:Str}{pos:Pos}(hN:X.N[i]? = some x)(hv:Vis X.env.scope x)(hd:(x==("__debug__" : Str))=false:=by decide)(hcd:(x==("__classdict__" : Str))=false:=by decide):PE X (.Name x pos) (K8 i):=by
 refine⟨?_⟩;intro pins s σ H Q I h;obtain ⟨v,e,h⟩:=h;obtain ⟨m,hn,hl⟩:=I.loc;obtain ⟨u,r,l⟩:=hl i x v hN e hv;have fin:EP X pins σ Q u s:=⟨v,H,I,r,h⟩;rcases l with ⟨hk,hm⟩ | ⟨hk,c,hc,hcell⟩
 ·exact wpAny_Name (wpAny_loadName_local I.ok.kind hk hn hm fin) hd
 ·rcases hk with hk | hk
  ·exact wpAny_Name (wpAny_loadName_cell I.ok.kind hk hc hcell fin) hd
  ·exact wpAny_Name (wpAny_loadName_free I.ok.kind hk hc hcell fin hcd) hd
theorem A7 {i j pos}:PE X (.Constant (.int i) j pos) (tC (.int i)):=⟨λ_ _ _ H _ I h=>wpAny_Constant_int ⟨.int i,H,I.tok _,⟨_,rfl⟩,h⟩⟩
theorem Y3 {b j pos}:PE X (.Constant (.bool b) j pos) (tC (.bl b)):=⟨λ_ _ _ H _ I h=>Constant_bool ⟨.bl b,H,I,rfl,h⟩⟩
theorem bH0 {j pos}:PE X (.Constant .none j pos) (tC .non):=⟨λ_ _ _ H _ I h=>Constant_none ⟨.non,H,I,rfl,h⟩⟩
theorem E5 {x j pos}:PE X (.Constant (.str x) j pos) (tC (.str x)):=⟨λ_ _ _ H _ I h=>Calls.Constant_str ⟨.str x,H,I.tok _,⟨_,rfl⟩,h⟩⟩
def Gl (X:Cx)(x:Str):Prop:=X.env.kindOf x=some .globalImplicit
theorem Z1 {E:Value->Shared->Prop}{pins:List (Addr×Obj)}{s:Shared}{σ:St}{H:Hp}{x:Str}{u:Value}{pos:Pos}{Q:Value->Shared->Prop}(I:Inv X pins σ H s)(hg:Gl X x)(hm:X.mg x=some u)(h:Q u s)
  (hd:(x==("__debug__" : Str))=false:=by decide):wpAny (model X.prog X.w) X.A (eval (.Name x pos) X.env) Q E s:=
 Calls.Name_function_global I.ok.kind hg (Calls.loadGlobal_global (by rw[I.ok.glob];exact I.mod.glob.keeps I.bk) hm h) hd
theorem j4 {E:Value->Shared->Prop}{pins:List (Addr×Obj)}{s:Shared}{σ:St}{H:Hp}{x:Str}{u:Value}{pos:Pos}{Q:Value->Shared->Prop}(I:Inv X pins σ H s)(hg:Gl X x)(hm:X.mg x=none)(hv:bootBuiltins x=some u)(h:Q u s)
  (hn:x≠"__name__" := by decide) (hd:(x==("__debug__" : Str))=false:=by decide):wpAny (model X.prog X.w) X.A (eval (.Name x pos) X.env) Q E s:=by
 obtain ⟨mb,h1,h2⟩:=I.mod.blt;exact Calls.Name_function_global I.ok.kind hg (Calls.loadGlobal_builtin (by rw[I.ok.glob];exact I.mod.glob.keeps I.bk) hm (by rw[I.ok.blt];exact h1.keeps I.bk) ((h2 x hn).trans hv) h) hd
theorem F7 {x:Str}{v:V}{u:Value}{pos:Pos}(hg:Gl X x)(hm:X.mg x=some u)(r:RelV v u)(hd:(x==("__debug__" : Str))=false:=by decide):PE X (.Name x pos) (tC v):=⟨λ_ _ _ H _ I h=>Z1 I hg hm ⟨v,H,I,r,h⟩ hd⟩
theorem bK8 {x:Str}{v:V}{u:Value}{pos:Pos}(hg:Gl X x)(hm:X.mg x=none)(hv:bootBuiltins x=some u)(r:RelV v u)(hn:x≠"__name__" := by decide)(hd:(x==("__debug__" : Str))=false:=by decide):PE X (.Name x pos) (tC v):=⟨λ_ _ _ H _ I h=>j4 I hg hm hv ⟨v,H,I,r,h⟩ hn hd⟩
def t2I (ta tb:TE)(k:Int->Int->Hp->Prop):St->Hp->Prop:=λσ H=>ta σ H λx H1=>tb σ H1 λy H2=>∃i j,x=.int i/\y=.int j/\k i j H2
variable {a b:Expr}{ta tb:TE}{pos:Pos}
structure PC (X:Cx)(op:CmpOp)(a b:Expr)(t:TE):Prop where
 mk ::
 run :
  ∀(pins:List (Addr×Obj)) (s:Shared) (σ:St) (H:Hp) (Q:VK),Inv X pins σ H s->t σ H Q ->
   wpAny (model X.prog X.w) X.A (eval a X.env) (λv s₁=>wpAny (model X.prog X.w) X.A (eval b X.env) (λu s₂=>wpAny (model X.prog X.w) X.A (compareOp op v u) (EP X pins σ Q) X.xe s₂) X.xe s₁) X.xe s
instance {X:Cx} {op:CmpOp} {a b:Expr} {t:TE}:CoeFun (PC X op a b t) λ_=>
 (∀(pins:List (Addr×Obj)) (s:Shared) (σ:St) (H:Hp) (Q:VK),Inv X pins σ H s->t σ H Q ->
  wpAny (model X.prog X.w) X.A (eval a X.env) (λv s₁=>wpAny (model X.prog X.w) X.A (eval b X.env) (λu s₂=>wpAny (model X.prog X.w) X.A (compareOp op v u) (EP X pins σ Q) X.xe s₂) X.xe s₁) X.xe s):=⟨PC.run⟩
def aY6 (p:Int->Int->Bool)(ta tb:TE):TE:=λσ H Q=>t2I ta tb (λi j H2=>Q (.bl (p i j)) H2) σ H
abbrev tLt:TE->TE->TE:=aY6 λi j=>decide (i<j)
abbrev tLe:TE->TE->TE:=aY6 λi j=>decide (i<=j)
abbrev tGt:TE->TE->TE:=aY6 λi j=>decide (j<i)
abbrev tGe:TE->TE->TE:=aY6 λi j=>decide (j<=i)
abbrev cE9:TE->TE->TE:=aY6 λi j=>decide (i=j)
abbrev cE8:TE->TE->TE:=aY6 λi j => !decide (i=j)
def tB (t:TE):TT:=λσ H Q=>t σ H λx H1=>∃c,x=.bl c/\Q c H1
theorem a9 {e:Expr}{t:TE}(h:PE X e t)(he:∀whole,isTrue e X.env whole=(do let v <- whole;standAt e.pos;holding [v] (truthy v)):=by intro _;rfl):PT X e (tB t):=by
 refine⟨?_⟩;intro pins s σ H Q I hw;refine isTrue_plain (thn (h pins s σ H _ I hw) λv s1 ⟨x,H1,I1,r1,q1⟩=>?_) (he _)
 obtain ⟨d,rfl,q⟩:=q1;cases r1;exact wpAny_truthy_bool ⟨H1,I1,q⟩
variable {tA tB':TT}{rest:List Expr}
def tOr (t u:TT):TT:=λσ H Q=>t σ H λc H1=>if c=true then Q true H1 else u σ H1 Q
def bZ0 (t:TT):TT:=λσ H Q=>t σ H λc H1=>Q (!c) H1
theorem z3 (ha:PT X a tA):PW X (.BoolOp .Or [a] pos) tA:=by
 refine⟨?_⟩;intro wh pins s σ H Q I h;refine isTrue_or (thn (ha pins s σ H Q I h) λc s1 e=>?_)
 cases c with
 | false=>exact isTrue_or_nil e
 | true=>exact e
theorem aE2 (ha:PT X a tA)(hb:PW X (.BoolOp .Or (b::rest) pos) tB'):PW X (.BoolOp .Or (a::b::rest) pos) (tOr tA tB'):=by
 refine⟨?_⟩;intro wh pins s σ H Q I h;refine isTrue_or (thn (ha pins s σ H _ I h) λc s1 ⟨H1,I1,q1⟩=>?_)
 cases c with
 | true=>exact⟨H1,I1,q1⟩
 | false=>exact hb wh pins s1 σ H1 Q I1 q1
theorem p9 (ha:PT X a tA):PT X (.UnaryOp .Not a pos) (bZ0 tA):=by
 refine⟨?_⟩;intro pins s σ H Q I h;exact isTrue_not (ha pins s σ H (λc H1=>Q (!c) H1) I h)
def bQ3 (ta tb:TE):TE:=λσ H Q=>ta σ H λx H1=>∃c,x=.bl c/\if c=true then tb σ H1 Q else Q (.bl false) H1
def bZ4 (ta tb:TE):TE:=λσ H Q=>ta σ H λx H1=>∃c,x=.bl c/\if c=true then Q (.bl true) H1 else tb σ H1 Q
def bQ4 (ta:TE):TE:=λσ H Q=>ta σ H λx H1=>∃c,x=.bl c/\Q (.bl (!c)) H1
theorem aJ1 {op}{t:TE}(h:PE X a t):PE X (.BoolOp op [a] pos) t:=⟨λpins s σ H Q I hw=>BoolOp_one (h pins s σ H Q I hw)⟩
theorem aG4 (ha:PE X a ta)(hb:PE X (.BoolOp .And (b::rest) pos) tb):PE X (.BoolOp .And (a::b::rest) pos) (bQ3 ta tb):=by
 refine⟨?_⟩;intro pins s σ H Q I h;refine BoolOp_and (thn (ha pins s σ H _ I h) λv s1 ⟨x,H1,I1,r1,q1⟩=>?_)
 obtain ⟨c,rfl,q1⟩:=q1;cases r1;refine wpAny_truthy_bool ?_;cases c with
 | true=>exact hb pins s1 σ H1 Q I1 q1
 | false=>exact⟨.bl false,H1,I1,rfl,q1⟩
theorem cD2 (ha:PE X a ta)(hb:PE X (.BoolOp .Or (b::rest) pos) tb):PE X (.BoolOp .Or (a::b::rest) pos) (bZ4 ta tb):=by
 refine⟨?_⟩;intro pins s σ H Q I h;refine BoolOp_or (thn (ha pins s σ H _ I h) λv s1 ⟨x,H1,I1,r1,q1⟩=>?_)
 obtain ⟨c,rfl,q1⟩:=q1;cases r1;refine wpAny_truthy_bool ?_;cases c with
 | false=>exact hb pins s1 σ H1 Q I1 q1
 | true=>exact⟨.bl true,H1,I1,rfl,q1⟩
theorem bT0 (ha:PE X a ta):PE X (.UnaryOp .Not a pos) (bQ4 ta):=by
 refine⟨?_⟩;intro pins s σ H Q I h;refine UnaryOp_ (thn (ha pins s σ H _ I h) λv s1 ⟨x,H1,I1,r1,q1⟩=>?_)
 obtain ⟨c,rfl,q1⟩:=q1;cases r1;exact not_of (wpAny_truthy_bool ⟨.bl (!c),H1,I1,rfl,q1⟩)
end
def SqL (K:PySem.W.Frag)(H:Hp)(a:Addr)(xs:List V):Prop:=
 Rd H a (.lst xs) \/
  ∃(o:Obj) (its:Array Value) (n:Nat),K.lookup a=some o/\o.cls=.type "list" /\ o.dict=none/\o.data=.seq its n/\its.size<=sizeLine/\Vals xs its.toList
def SqT (K:PySem.W.Frag)(H:Hp)(a:Addr)(xs:List V):Prop:=
 Rd H a (.tup xs) \/
  ∃(o:Obj) (its:Array Value) (n:Nat),K.lookup a=some o/\o.cls=.type "tuple" /\ o.dict=none/\o.data=.seq its n/\its.size<=sizeLine/\Vals xs its.toList
def cE4:Value->Option V
 | .none=>some .non
 | .bool b=>some (.bl b)
 | .int i _=>some (.int i)
 | .str x _=>some (.str x)
 | .bytes b _=>some (.byt b)
 | .float b _=>some (.flt b)
 | .ref a=>some (.ref a)
 | .type n=>some (.ty n)
 | _=>none
theorem RelV.abs {x:V}{u:Value}(r:RelV x u):cE4 u=some x:=by
 cases x with
 | non=>cases r;rfl
 | bl _=>cases r;rfl
 | int _=>obtain ⟨t,rfl⟩:=r;rfl
 | str _=>obtain ⟨t,rfl⟩:=r;rfl
 | byt _=>obtain ⟨t,rfl⟩:=r;rfl
 | flt _=>obtain ⟨t,rfl⟩:=r;rfl
 | ref _=>cases r;rfl
 | ty _=>cases r;rfl
theorem RelV.inj {x y:V}{u:Value}(r:RelV x u)(q:RelV y u):x=y:=Ab3 (r.abs.symm.trans q.abs)
theorem Vals.inj:∀{xs ys:List V} {us:List Value},Vals xs us->Vals ys us->xs=ys
 | _,_,_,.nil,.nil=>rfl
 | _,_,_,.cons r t,.cons r' t'=>by rw[r.inj r',Vals.inj t t']
section
variable {X:Cx}{pins:List (Addr×Obj)}{σ:St}{H:Hp}{s:Shared}{a:Addr}{xs ys:List V}
theorem SqL.of {K:PySem.W.Frag}(h:H a=some (.lst xs)):SqL K H a xs:=.inl (.inl h)
theorem SqT.of {K:PySem.W.Frag}(h:H a=some (.tup xs)):SqT K H a xs:=.inl (.inl h)
theorem Inv.list (I:Inv X pins σ H s)(h:SqL X.K H a xs):∃its:List Value,Vals xs its/\PlainL s.heap a its.toArray/\xs.length<=sizeLine:=by
 rcases h with h | ⟨o,its,n,hk,hc,hd,hs,hz,r⟩
 ·obtain ⟨z,its,n,r,e⟩:=h.ok I.hok;exact⟨its,r,⟨_,n,e,rfl,rfl,rfl⟩,z⟩
 ·refine⟨its.toList,r,⟨o,n,I.kIn a o hk,hc,hd,by simpa using hs⟩,?_⟩
  have e:=r.length
  simp only[Array.length_toList]at e;omega
theorem Inv.tuple0 (I:Inv X pins σ H s)(h:SqT X.K H a xs):∃its:List Value,Vals xs its/\Tup0 s.heap a its.toArray/\xs.length<=sizeLine:=by
 rcases h with h | ⟨o,its,n,hk,hc,hd,hs,hz,r⟩
 ·obtain ⟨z,its,r,p⟩:=h.ok I.hok;exact⟨its,r,p,z⟩
 ·refine⟨its.toList,r,⟨o,I.kIn a o hk,hc,⟨n,by simpa using hs⟩,hd⟩,?_⟩
  have e:=r.length
  simp only[Array.length_toList]at e;omega
theorem Inv.tuple (I:Inv X pins σ H s)(h:SqT X.K H a xs):∃its:List Value,Vals xs its/\IsTup s.heap a its.toArray/\xs.length<=sizeLine:=by
 obtain ⟨its,r,p,z⟩:=I.tuple0 h;exact⟨its,r,p.tup,z⟩
theorem Inv.list_inj (I:Inv X pins σ H s)(h:SqL X.K H a xs)(h':SqL X.K H a ys):xs=ys:=by
 obtain ⟨its,r,⟨o,n,e,_,_,d⟩,_⟩:=I.list h;obtain ⟨its',r',⟨o',n',e',_,_,d'⟩,_⟩:=I.list h';rw[e]at e';cases e';rw[d]at d'
 injection d' with d1 _
 have:its=its':=by simpa using congrArg Array.toList d1
 subst this;exact r.inj r'
end
abbrev Cx.wish (X:Cx)(E:Value->Shared->Prop):Cx:={X with xe:=E}
abbrev Cx.nox (X:Cx):Cx:=X.wish λ_ _=>False
theorem Cx.Ok.wish {X:Cx}(ok:X.Ok)(E:Value->Shared->Prop):(X.wish E).Ok:=
 ⟨ok.mod,ok.kind,ok.glob,ok.blt,ok.above,ok.inj,ok.has,ok.cab,ok.hd,ok.frames,ok.stk,ok.exf,ok.bs,ok.bsz,ok.noex,ok.exfs,ok.funs,ok.frf⟩
theorem Cx.Ok.unwish {X:Cx}{E:Value->Shared->Prop}(ok:(X.wish E).Ok):X.Ok:=
 ⟨ok.mod,ok.kind,ok.glob,ok.blt,ok.above,ok.inj,ok.has,ok.cab,ok.hd,ok.frames,ok.stk,ok.exf,ok.bs,ok.bsz,ok.noex,ok.exfs,ok.funs,ok.frf⟩
section
variable {X:Cx}{pins:List (Addr×Obj)}{σ:St}{H:Hp}{s:Shared}{E:Value->Shared->Prop}
theorem Inv.wish (I:Inv X pins σ H s)(E:Value->Shared->Prop):Inv (X.wish E) pins σ H s:=⟨I.ok.wish E,I.os,I.bare,I.base,I.loc,I.cell,I.free,I.freeC,I.pin,I.hok,I.len⟩
theorem Inv.unwish (I:Inv (X.wish E) pins σ H s):Inv X pins σ H s:=⟨I.ok.unwish,I.os,I.bare,I.base,I.loc,I.cell,I.free,I.freeC,I.pin,I.hok,I.len⟩
theorem SP.unwish {D:v9}{f:Flow}{s':Shared}(h:SP (X.wish E) pins D f s'):SP X pins D f s':=by
 cases f with
 | next=>obtain ⟨σ',H',I,q⟩:=h;exact⟨σ',H',I.unwish,q⟩
 | brk=>obtain ⟨σ',H',I,q⟩:=h;exact⟨σ',H',I.unwish,q⟩
 | cont=>obtain ⟨σ',H',I,q⟩:=h;exact⟨σ',H',I.unwish,q⟩
 | ret u=>obtain ⟨v,σ',H',I,r,q⟩:=h;exact⟨v,σ',H',I.unwish,r,q⟩
theorem PSs.nox {st:List Stmt}{t:TS}(h:PSs X.nox st t):PSs X st t:=⟨λpins s σ H D I hw=>
 wpAny_mono (h pins s σ H D (I.wish _) hw) (λ_ _ q=>q.unwish) λ_ _ z=>False.elim z⟩
end
section
variable {X:Cx}{st:Stmt}{rest:List Stmt}{t u:TS}{e:Expr}{te:TE}{pos:Pos}
def bR0:TS:=λD σ H=>D.nx σ H
def bR5 (t u:TS):TS:=λD σ H=>t {D with nx:=u D} σ H
theorem E7:PSs X [] bR0:=⟨λ_ _ σ H _ I h=>wpAny_execs_nil ⟨σ,H,I,h⟩⟩
theorem A5 (h1:PS X st t)(h2:PSs X rest u):PSs X (st::rest) (bR5 t u):=by
 refine⟨?_⟩;intro pins s σ H D I h;refine wpAny_execs_cons (thn (h1 pins s σ H {D with nx:=u D} I h) λf s1 q=>?_)
 cases f with
 | next=>
  obtain ⟨σ',H',I',q⟩:=q;exact h2 pins s1 σ' H' D I' q
 | ret v=>exact q
 | brk=>exact q
 | cont=>exact q
theorem A8 (h1:PS X st t):PSs X [st] t:=by
 refine⟨?_⟩;intro pins s σ H D I h;refine wpAny_execs_cons (thn (h1 pins s σ H D I h) λf s1 q=>?_)
 cases f with
 | next=>exact wpAny_execs_nil q
 | ret v=>exact q
 | brk=>exact q
 | cont=>exact q
theorem Inv.quiet {pins:List (Addr×Obj)}{σ:St}{H:Hp}{s:Shared}(I:Inv X pins σ H s):interactive X.env=false:=by simp[interactive,I.ok.kind]
def Z6 (te:TE):TS:=λD σ H=>te σ H λ_ H1=>D.nx σ H1
theorem N2 (he:PE X e te)(hs:swapsWith e none pos.line X.env=pure false:=by rfl):PS X (.Expr e pos) (Z6 te):=by
 refine⟨?_⟩;intro pins s σ H D I h;exact wpAny_Expr_any (thn (he pins s σ H _ I h) λv s1 ⟨x,H1,I1,r1,q1⟩=>⟨σ,H1,I1,q1⟩) I.quiet hs
def bK2 (te:TE):TS:=λD σ H=>te σ H D.rt
theorem C6 (he:PE X e te):PS X (.Return (some e) pos) (bK2 te):=by
 refine⟨?_⟩;intro pins s σ H D I h;exact wpAny_Return_some (thn (he pins s σ H _ I h) λv s1 ⟨x,H1,I1,r1,q1⟩=>⟨x,σ,H1,I1,r1,q1⟩)
def aX1 (c:TT)(t u:TS):TS:=λD σ H=>c σ H λb H1=>if b=true then t D σ H1 else u D σ H1
theorem O6 {c:Expr}{a b:List Stmt}{tc:TT}(hc:PT X c tc)(ha:PSs X a t)(hb:PSs X b u):PS X (.If c a b pos) (aX1 tc t u):=by
 refine⟨?_⟩;intro pins s σ H D I h;refine wpAny_If (thn (hc pins s σ H _ I h) λd s1 ⟨H1,I1,q1⟩=>?_)
 cases d with
 | true=>exact ha pins s1 σ H1 D I1 q1
 | false=>exact hb pins s1 σ H1 D I1 q1
end
abbrev TG:=V->St->Hp->(St->Hp->Prop)->Prop
abbrev TGs:=List V->St->Hp->(St->Hp->Prop)->Prop
structure PG (X:Cx)(target:Expr)(t:TG):Prop where
 mk ::
 run :
  ∀(pins:List (Addr×Obj)) (s:Shared) (σ:St) (H:Hp) (v:V) (u:Value) (Q:St->Hp->Prop),Inv X pins σ H s->RelV v u->t v σ H Q ->
   wpAny (model X.prog X.w) X.A (assign target X.env u) (λ_ s'=>∃σ' H',Inv X pins σ' H' s'/\Q σ' H') X.xe s
instance {X:Cx} {target:Expr} {t:TG}:CoeFun (PG X target t) λ_=>
 (∀(pins:List (Addr×Obj)) (s:Shared) (σ:St) (H:Hp) (v:V) (u:Value) (Q:St->Hp->Prop),Inv X pins σ H s->RelV v u->t v σ H Q ->
  wpAny (model X.prog X.w) X.A (assign target X.env u) (λ_ s'=>∃σ' H',Inv X pins σ' H' s'/\Q σ' H') X.xe s):=⟨PG.run⟩
structure PGs (X:Cx)(ts:List Expr)(t:TGs):Prop where
 mk ::
 run :
  ∀(pins:List (Addr×Obj)) (s:Shared) (σ:St) (H:Hp) (vs:List V) (us:List Value) (Q:St->Hp->Prop),Inv X pins σ H s->Vals vs us->t vs σ H Q ->
   wpAny (model X.prog X.w) X.A (assignInOrder ((assignEach ts X.env).map (·.2)) us) (λ_ s'=>∃σ' H',Inv X pins σ' H' s'/\Q σ' H') X.xe s
instance {X:Cx} {ts:List Expr} {t:TGs}:CoeFun (PGs X ts t) λ_=>
 (∀(pins:List (Addr×Obj)) (s:Shared) (σ:St) (H:Hp) (vs:List V) (us:List Value) (Q:St->Hp->Prop),Inv X pins σ H s->Vals vs us->t vs σ H Q ->
  wpAny (model X.prog X.w) X.A (assignInOrder ((assignEach ts X.env).map (·.2)) us) (λ_ s'=>∃σ' H',Inv X pins σ' H' s'/\Q σ' H') X.xe s):=⟨PGs.run⟩
abbrev bX4:=V->V->V->Hp->(Hp->Prop)->Prop
def cA6 (X:Cx)(t:bX4):Prop:=
 ∀(pins:List (Addr×Obj)) (s:Shared) (σ:St) (H:Hp) (o i v:V) (ov iv u:Value) (Q:Hp->Prop),Inv X pins σ H s->RelV o ov->RelV i iv->RelV v u->t o i v H Q ->
  wpAny (model X.prog X.w) X.A (setItem ov iv u) (λ_ s'=>∃H',Inv X pins σ H' s'/\Q H') X.xe s
abbrev TIp:=V->V->Hp->VK->Prop
section
variable {X:Cx}{pos:Pos}
def R3 (i:Nat):TG:=λv σ H Q=>Q (σ.set i (some v)) H
theorem E2 {i:Nat}{x:Str}(hN:X.N.Nodup)(hi:X.N[i]? = some x)(hx:Loc X.env.scope x)(hf:X.fn x=true\/X.env.scope.names.lookup x=some .local:=by first | exact .inl rfl | exact .inr rfl | assumption):PG X (.Name x pos) (R3 i):=by
 refine⟨?_⟩;intro pins s σ H v u Q I r h;exact wpAny_assign_Name (aA1 I hN hi hx r (λs' I'=>⟨_,H,I',h⟩) hf)
def aX7:TGs:=λvs σ H Q=>vs=[]/\Q σ H
def aA3 (t:TG)(u:TGs):TGs:=λvs σ H Q=>∃v r,vs=v::r/\t v σ H λσ' H'=>u r σ' H' Q
theorem aT8:PGs X [] aX7:=by
 refine⟨?_⟩;intro pins s σ H vs us Q I r h;obtain ⟨e,h⟩:=h;subst e;cases r;exact assignInOrder_nil ⟨σ,H,I,h⟩
theorem m6 {e:Expr}{es:List Expr}{t:TG}{u:TGs}(h1:PG X e t)(h2:PGs X es u)
  (hs:(assignEach (e::es) X.env).map (·.2)=assign e X.env::(assignEach es X.env).map (·.2):=by rfl):PGs X (e::es) (aA3 t u):=by
 refine⟨?_⟩;intro pins s σ H vs us Q I r h;obtain ⟨v,vr,e1,h⟩:=h;subst e1;cases r with
 | cons r rr=>
  rw[hs];refine assignInOrder_cons (thn (h1 pins s σ H _ _ _ I r h) λ_ s1 ⟨σ1,H1,I1,q1⟩=>?_)
  exact h2 pins s1 σ1 H1 _ _ Q I1 rr q1
def bL2 (K:PySem.W.Frag)(n:Nat)(t:TGs):TG:=λv σ H Q=>∃a xs,v=.ref a/\SqT K H a xs/\xs.length=n/\t xs σ H Q
theorem bE7 {es:List Expr}{k:Nat}{t:TGs}{n:Nat}(hc:X.calm=true)(h:PGs X es t)
  (hn:(assignEach es X.env).length=n:=by rfl) (hst:(assignEach es X.env).findIdx? (·.1)=none:=by rfl):PG X (.Tuple es k pos) (bL2 X.K n t):=by
 refine⟨?_⟩;intro pins s σ H v u Q I r hw;obtain ⟨a,xs,e1,hq,hl,hw⟩:=hw;subst e1;cases r;obtain ⟨its,rv,ht,hz⟩:=I.tuple hq;refine assign_Tuple_tuple (I.ok.hd hc) ht (by simp[hn,<- hl,rv.length]) hst λh' hx=>?_
 have I1:Inv X pins σ H {s with heap:=h'}:=I.kept (t':=s.toks) λb o e=>hx b o (Ab7 (Ab2 e)) e
 exact h pins _ σ H xs _ Q I1 (by simpa using rv) hw
def bZ9 (to ti:TE)(t:bX4):TG:=λv σ H Q=>to σ H λo H1=>ti σ H1 λi H2=>t o i v H2 λH3=>Q σ H3
theorem bU7 {o i:Expr}{to ti:TE}{t:bX4}(ho:PE X o to)(hi:PE X i ti)(hs:cA6 X t)
  (ha:∀v,assign (.Subscript o i pos) X.env v=(do
   let ov <- holding [v] (eval o X.env)
   let iv <- holding [v,ov] (eval i X.env)
   standAt pos
   holding [v,ov,iv] (setItem ov iv v)
   release [v,ov,iv] []):=by intro _;rfl):PG X (.Subscript o i pos) (bZ9 to ti t):=by
 refine⟨?_⟩;intro pins s σ H v u Q I r h;rw[ha];refine wpAny_bind (wpAny_holding (thn (ho pins s σ H _ I h) λov s1 ⟨x,H1,I1,r1,q1⟩=>?_))
 refine wpAny_bind (wpAny_holding (thn (hi pins s1 σ H1 _ I1 q1) λiv s2 ⟨y,H2,I2,r2,q2⟩=>?_))
 refine wpAny_bind (wpAny_standAt (wpAny_bind (wpAny_holding (thn (hs pins s2 σ H2 x y v ov iv u _ I2 r1 r2 r q2) λ_ s3 ⟨H3,I3,q3⟩=>?_))))
 exact wpAny_release ⟨σ,H3,I3,q3⟩
def aM1 (te:TE)(g:TG):TS:=λD σ H=>te σ H λx H1=>g x σ H1 D.nx
theorem bU1 {tg e:Expr}{te:TE}{g:TG}(he:PE X e te)(hg:PG X tg g)(hs:swapsWithSole [tg] e pos.line X.env=pure false:=by rfl)(hw:swappedStores [tg] e X.env=pure none:=by rfl)
  (h1:(assignEach [tg] X.env).map (·.2)=[assign tg X.env]:=by rfl):PS X (.Assign [tg] e pos) (aM1 te g):=by
 refine⟨?_⟩;intro pins s σ H D I h;refine wpAny_Assign_stores (thn (he pins s σ H _ I h) λv s1 ⟨x,H1,I1,r1,q1⟩=>?_) hs hw
 rw[h1];exact thn (hg pins s1 σ H1 x v _ I1 r1 q1) λ_ s2 q=>q
theorem D4 {i:Nat}{x:Str}{e:Expr}{te:TE}{pos':Pos}(hN:X.N.Nodup)(hi:X.N[i]? = some x)(hx:Loc X.env.scope x)(he:PE X e te)(hs:swapsWith e (some (.Name x pos')) pos.line X.env=pure false:=by rfl)(hf:X.fn x=true\/X.env.scope.names.lookup x=some .local:=by first | exact .inl rfl | exact .inr rfl | assumption) :
  PS X (.Assign [.Name x pos'] e pos) (aM1 te (R3 i)):=by
 refine⟨?_⟩;intro pins s σ H D I h;refine wpAny_Assign_Name (thn (he pins s σ H _ I h) λv s1 ⟨y,H1,I1,r1,q1⟩=>?_) hs
 exact aA1 I1 hN hi hx r1 (λs2 I2=>⟨_,H1,I2,q1⟩) hf
end
structure It where
 go:Nat->Hp->Prop
 yld:Nat->Hp->V->Hp->Prop
 stop:Nat->Hp->Prop
def FpOk (X:Cx)(pins:List (Addr×Obj))(H:Hp)(b:Addr):Prop:=
 H b=none/\b≠X.env.locals/\b∉X.fs/\(b∈X.ex\/X.s₀.heap.objs.size<=b)/\(∀x c,X.env.cells.lookup x=some c->c≠b)/\∀p∈X.pn++pins,p.1≠b
theorem Inv.fpOk {X:Cx}{pins:List (Addr×Obj)}{σ:St}{H H':Hp}{s:Shared}{b:Addr}(I:Inv X pins σ H s)(hb:s.heap.objs.size<=b)(hn:H' b=none):FpOk X pins H' b:=by
 refine⟨hn,Nat.ne_of_gt (Ab6 I.lt hb),I.nofs hb,.inr (Nat.le_trans I.sz hb),λx c e z=>?_,λp hp z=>?_⟩
 ·obtain ⟨v,q⟩:=I.cell x c e;exact absurd (Ab6 q.lt (by rw[z];exact hb)) (Ad2 _)
 ·exact absurd (Ab6 (Ab2 (I.pin p hp).1) (by rw[z];exact hb)) (Ad2 _)
structure aL5 (P:Program)(w:World)(K:PySem.W.Frag)(tg:Expr)(J:It)(fp:List Addr)(it:Addr)(tn:Nat->Heap->Prop):Prop where
 mem:it∈fp
 obj:∀i h,tn i h->∀b∈fp,∃o,h.get? b=some o/\∀v,o.data≠.cell v
 keep:∀i h h',tn i h->(∀b∈fp,∀o,h.get? b=some o->h'.get? b=some o)->tn i h'
 item:∀(X:Cx),X.prog=P->X.w=w->X.K=K->X.calm=true->∀(i:Nat) (pins:List (Addr×Obj)) (s:Shared) (σ:St) (H:Hp) (E:Value->Shared->Prop),Inv X pins σ H s->(∀b∈fp,FpOk X pins H b)->tn i s.heap->J.go i H ->
  wpAny (model P w) X.A (pyNext (.ref it)) (λr s1=>∃u,r=some u /\
   wpAny (model P w) X.A (letOwnedTupleGo tg (.ref it) u) (λ_ s2=>∃x H',Inv X pins σ H' s2/\RelV x u/\J.yld i H x H'/\tn (i+1) s2.heap/\∀b∈fp,H' b=none) E s1) E s
 done:∀(X:Cx),X.prog=P->X.w=w->X.K=K->X.calm=true->∀(i:Nat) (pins:List (Addr×Obj)) (s:Shared) (σ:St) (H:Hp) (E:Value->Shared->Prop),Inv X pins σ H s->(∀b∈fp,FpOk X pins H b)->tn i s.heap->J.stop i H ->
  wpAny (model P w) X.A (pyNext (.ref it)) (λr s1=>r=none/\Inv X pins σ H s1) E s
 self:∀(A:Around) (i:Nat) (s:Shared) (Q:Value->Shared->Prop) (E:Value->Shared->Prop),tn i s.heap->Q (.ref it) s->wpAny (model P w) A (pyIter (.ref it)) Q E s
abbrev TI:=St->Hp->(It->Hp->Prop)->Prop
def PIE (X:Cx)(pins:List (Addr×Obj))(σ:St)(tg:Expr)(R:It->Hp->Prop)(itv:Value)(s2:Shared):Prop:=
 ∃(it:Addr) (fp:List Addr) (tn:Nat->Heap->Prop) (J:It) (H':Hp),itv=.ref it/\Inv X pins σ H' s2/\aL5 X.prog X.w X.K tg J fp it tn/\tn 0 s2.heap/\(∀b∈fp,FpOk X pins H' b)/\R J H'
structure PI (X:Cx)(tg iter:Expr)(wi:TI):Prop where
 mk ::
 run :
  ∀(pins:List (Addr×Obj)) (s:Shared) (σ:St) (H:Hp) (R:It->Hp->Prop),Inv X pins σ H s->wi σ H R ->
   wpAny (model X.prog X.w) X.A (eval iter X.env) (λv s1=>wpAny (model X.prog X.w) X.A (pyIter v) (PIE X pins σ tg R) X.xe s1) X.xe s
instance {X:Cx} {tg iter:Expr} {wi:TI}:CoeFun (PI X tg iter wi) λ_=>
 (∀(pins:List (Addr×Obj)) (s:Shared) (σ:St) (H:Hp) (R:It->Hp->Prop),Inv X pins σ H s->wi σ H R ->
  wpAny (model X.prog X.w) X.A (eval iter X.env) (λv s1=>wpAny (model X.prog X.w) X.A (pyIter v) (PIE X pins σ tg R) X.xe s1) X.xe s):=⟨PI.run⟩
theorem bP6 {M:Model}{A:Around}{E:Value->Shared->Prop}{s:Shared}{tg:Expr}{it:Addr}{u:Value}{o:Obj}{n:String}{vs:Array Value}{Q:Unit->Shared->Prop}(ho:s.heap.get? it=some o)(hc:o.cls=.type n)(hd:o.data=.fields vs)
  (hn:["enumerate", "zip", "dict_itemiterator", "dict_reverseitemiterator", "odict_iterator", "itertools.zip_longest", "itertools.pairwise"].contains n=false) (hQ:Q () s):wpAny M A (letOwnedTupleGo tg (.ref it) u) Q E s:=by
 unfold letOwnedTupleGo;cases tg <;> first
  | exact wpAny_pure hQ
  | (cases u <;> first
    | exact wpAny_pure hQ
    | (refine wpAny_bind (wpAny_load ho ?_)
       rw[hc,hd];show wpAny M A (if(["enumerate", "zip", "dict_itemiterator", "dict_reverseitemiterator", "odict_iterator", "itertools.zip_longest", "itertools.pairwise"].contains n&&vs[0]? == some (rawInt _))=true then _ else _) Q E s;rw[if_neg (by intro h;rw[hn,Bool.false_and]at h;cases h)]
       exact wpAny_pure hQ))
def Itl (K:PySem.W.Frag)(a:Addr):It:=
 ⟨λi H=>∃xs x,SqL K H a xs/\xs[i]? = some x,λi H x H'=>H'=H/\∀xs,SqL K H a xs->xs[i]? = some x,λi H=>∃xs,SqL K H a xs/\xs.length<=i⟩
def Itr (lo:Int)(n:Nat):It:=⟨λi _=>i<n,λi H x H'=>H'=H/\x=.int (lo+i),λi _=>n<=i⟩
theorem aZ0 {P:Program}{w:World}{K:PySem.W.Frag}{tg:Expr}(a it:Addr):aL5 P w K tg (Itl K a) [it] it (λi h=>h.IsListIter it a i) where
 mem:=by simp
 obj:=λi h st b hb=>by
  have e:b=it:=by simpa using hb
  subst e;obtain ⟨o,e,c,d⟩:=st;exact⟨o,e,λv z=>by rw[d]at z;cases z⟩
 keep:=λi h h' st k=>st.at λo e=>k it (by simp) o e
 item:=by
  intro X hP hw hK hc i pins s σ H E I hf st hg;subst hP hw hK;obtain ⟨xs,x,hq,hx⟩:=hg;obtain ⟨its,rv,p,hz⟩:=I.list hq;obtain ⟨u,hu,ru⟩:=rv.get hx;obtain ⟨f0,f1,f2,f3,f4,f5⟩:=hf it (by simp)
  refine wpAny_pyNext_list_item st p.isList (x:=u) (by simpa using hu) λh' st' sb=>?_
  have I1:Inv X pins σ H {s with heap:=h'}:=I.turned (t':=s.toks) (λb o hb e=>(sb.2 b hb).trans e) f0 f1 f3 f4 f5
  obtain ⟨o,e,c,d⟩:=id st';exact⟨u,rfl,bP6 (s:={s with heap:=h'}) e c d (by decide) ⟨x,H,I1,ru,⟨rfl,λys hy=>by rw[I.list_inj hy hq];exact hx⟩,st',λb hb=>(hf b hb).1⟩⟩
 done:=by
  intro X hP hw hK hc i pins s σ H E I hf st hg;subst hP hw hK;obtain ⟨xs,hq,hx⟩:=hg;obtain ⟨its,rv,p,hz⟩:=I.list hq;obtain ⟨f0,f1,f2,f3,f4,f5⟩:=hf it (by simp)
  have hl:=rv.length
  exact wpAny_pyNext_list_end (I.ok.hd hc) st p.isList (by simp;omega) λh' eb=>⟨rfl,I.turned (t':=s.toks) (λb o hb e=>eb b o hb e) f0 f1 f3 f4 f5⟩
 self:=λ_ _ _ _ _ st h=>wpAny_pyIter_listiter st h
theorem aP0 {P:Program}{w:World}{K:PySem.W.Frag}{tg:Expr}(it:Addr)(lo:Int)(n:Nat):aL5 P w K tg (Itr lo n) [it] it (λi h=>IsRangeIter h it (lo+(i:Nat)*1) ((n:Int)-(i:Nat)) 1) where
 mem:=by simp
 obj:=λi h st b hb=>by
  have e:b=it:=by simpa using hb
  subst e;exact⟨_,st,λv z=>by
   have z':Data.fields _=Data.cell v:=z
   cases z'⟩
 keep:=λi h h' st k=>k it (by simp) _ st
 item:=by
  intro X hP hw hK hc i pins s σ H E I hf st hg;subst hP hw hK;obtain ⟨f0,f1,f2,f3,f4,f5⟩:=hf it (by simp)
  have W:=Walks.range (prog:=X.prog) (w:=X.w) (I.ok.hd hc) it lo 1 n
  refine W.item i s _ _ hg st λv h' tk hv st' kk=>?_
  obtain ⟨t,rfl⟩:=hv;have I1:Inv X pins σ H {s with heap:=h',toks:=tk}:=I.turned (λb o hb e=>kk b o (by simpa using hb) e) f0 f1 f3 f4 f5
  refine⟨_,rfl,bP6 (s:={s with heap:=h',toks:=tk}) (n := "range_iterator") st' rfl rfl (by decide) ⟨.int (lo+i),H,I1,⟨t,?_⟩,⟨rfl,rfl⟩,st',λb hb=>(hf b hb).1⟩⟩
  rw[Int.mul_one]
 done:=by
  intro X hP hw hK hc i pins s σ H E I hf st hg;subst hP hw hK;obtain ⟨f0,f1,f2,f3,f4,f5⟩:=hf it (by simp)
  exact wpAny_pyNext_range_end (I.ok.hd hc) st (by have:n<=i:=hg;omega) λh' eb=>⟨rfl,I.turned (t':=s.toks) (λb o hb e=>eb b o hb e) f0 f1 f3 f4 f5⟩
 self:=λ_ _ _ _ _ st h=>wpAny_pyIter_rangeiter st h
section
variable {X:Cx}{tg:Expr}
def bO3 (K:PySem.W.Frag)(tl:TE):TI:=λσ H R=>tl σ H λx H1=>∃a,x=.ref a/\(∃xs,SqL K H1 a xs)/\R (Itl K a) H1
theorem R6 {l:Expr}{tl:TE}(hl:PE X l tl):PI X tg l (bO3 X.K tl):=by
 refine⟨?_⟩;intro pins s σ H R I h;refine thn (hl pins s σ H _ I h) λv s1 ⟨x,H1,I1,r1,q1⟩=>?_
 obtain ⟨a,e,⟨xs,hq⟩,q⟩:=q1;subst e;cases r1;obtain ⟨its,rv,p,hz⟩:=I1.list hq;refine wpAny_pyIter_list p.isList ?_;refine⟨s1.heap.objs.size,[s1.heap.objs.size],_,_,H1,rfl,I1.kept (t':=s1.toks) λb o e=>Aa5 _ e,aZ0 a _,⟨_,Ac1 _ rfl,rfl,rfl⟩,λb hb=>?_,q⟩
 have e:b=s1.heap.objs.size:=by simpa using hb
 subst e;exact I1.fpOk (Aa6 _) (I1.hok.fresh (Aa6 _))
theorem bG4 {pins:List (Addr×Obj)}{σ:St}{H:Hp}{s:Shared}{R:It->Hp->Prop}{E:Value->Shared->Prop}{lo hi:Int}{t u v:Tok}{tk:Nat}(I:Inv X pins σ H s)(h1 : -(2^62)<=lo)(h2:lo<2^62)(h3 : -(2^62)<=hi)(h4:hi<2^62)
  (q:R (Itr lo (hi-lo).toNat) H):wpAny (model X.prog X.w) X.A (pyIter (.ref s.heap.objs.size)) (PIE X pins σ tg R) E {s with heap:=s.heap.push {cls:=.type "range",data:=.fields #[.int lo t,.int hi u,.int 1 v]},toks:=tk}:=by
 refine wpAny_pyIter_range (IsRange.new ..) (small_one h1 h2 h3 h4) ?_;have I1:Inv X pins σ H {s with heap:=s.heap.push {cls:=.type "range",data:=.fields #[.int lo t,.int hi u,.int 1 v]},toks:=tk}:=I.kept λb o e=>Aa5 _ e
 refine⟨(s.heap.push {cls:=.type "range",data:=.fields #[.int lo t,.int hi u,.int 1 v]}).objs.size,[(s.heap.push {cls:=.type "range",data:=.fields #[.int lo t,.int hi u,.int 1 v]}).objs.size],_,_,H,rfl,
  I1.kept (t':=tk) λb o e=>Aa5 _ e,aP0 _ lo (hi-lo).toNat,?_,λb hb=>?_,q⟩
 ·have e1:lo+((0:Nat):Int)*1=lo:=by simp
  have e2:(((hi-lo).toNat:Nat):Int)-((0:Nat):Int)=Builtin.Range.rangeSize lo hi 1:=by rw[rangeSize_one];split <;> omega
  show IsRangeIter _ _ (lo+((0:Nat):Int)*1) ((((hi-lo).toNat:Nat):Int)-((0:Nat):Int)) 1
  rw[e1,e2];exact Ac1 _ rfl
 ·have e:b=(s.heap.push {cls:=.type "range",data:=.fields #[.int lo t,.int hi u,.int 1 v]}).objs.size:=by simpa using hb
  subst e;exact I1.fpOk (Aa6 _) (I1.hok.fresh (Aa6 _))
def bQ1 (ta:TA):TI:=λσ H R=>ta σ H λvs H1=>∃j:Int,vs=[.int j] /\ -(2^62)<=j/\j<2^62/\R (Itr 0 j.toNat) H1
theorem K9 {a:Expr}{ta:TA}{p pos:Pos}(hg:Gl X "range")(hm:X.mg "range" = none)(ha:PA X [a] ta)(hs:starEach [a] X.env=[(false,eval a X.env)]:=by rfl):PI X tg (.Call (.Name "range" p) [a] [] pos) (bQ1 ta):=by
 refine⟨?_⟩;intro pins s σ H R I h;refine Call_ (j4 I hg hm boot_range (PyProof.Rows.callWith_type1 (thn (ha pos pins s σ H _ I h) λus s1 ⟨vs,H1,I1,r1,q1⟩=>?_) hs rfl))
 obtain ⟨j,e,q1,q2,q⟩:=q1;subst e;cases r1 with
 | cons r rr=>
  cases rr
  obtain ⟨t,rfl⟩:=r;exact call_range_1 (bG4 I1 (by omega) (by omega) q1 q2 (by simpa using q))
def cC9 (wi:TI)(g:TG)(tb:TS):TS:=λD σ H=>wi σ H λJ H1=>∃W:Nat->Nat->St->Hp->Prop,(∃m,W 0 m σ H1)/\∀i m σ H,W i m σ H ->
 (J.stop i H/\D.nx σ H)\/(J.go i H/\∃N:St->Hp->Prop,(∀σ' H',N σ' H'->∃m',m'<m/\W (i+1) m' σ' H')/\∀x H',J.yld i H x H'->g x σ H' λσ2 H2=>tb {D with nx:=N,ct:=N,bk:=D.nx} σ2 H2)
def U3 (fp:List Addr)(h:Heap):List (Addr×Obj):=fp.filterMap λb=>(h.get? b).map λo=>(b,o)
theorem W2 {fp:List Addr}{h:Heap}{b:Addr}{o:Obj}(hb:b∈fp)(e:h.get? b=some o):(b,o)∈U3 fp h:=List.mem_filterMap.mpr ⟨b,hb,by rw[e];rfl⟩
theorem aE4 {fp:List Addr}{h:Heap}{p:Addr×Obj}(hp:p∈U3 fp h):p.1∈fp/\h.get? p.1=some p.2:=by
 obtain ⟨b,hb,e⟩:=List.mem_filterMap.mp hp;cases q:h.get? b with
 | none=>rw[q]at e;cases e
 | some o=>
  rw[q]at e;have e':(b,o)=p:=Ab3 e;subst e';exact⟨hb,q⟩
theorem Inv.pinned {pins:List (Addr×Obj)}{σ:St}{H:Hp}{s:Shared}{fp:List Addr}(I:Inv X pins σ H s)(hf:∀b∈fp,FpOk X pins H b)(ho:∀b∈fp,∃o,s.heap.get? b=some o/\∀v,o.data≠.cell v):Inv X (pins++U3 fp s.heap) σ H s:=
 I.pins_of λp hp=>(Aa0.mp hp).elim (λz=>I.pin p (Ab9 _ z)) λz=>by
  obtain ⟨hb,e⟩:=aE4 z;obtain ⟨f0,f1,f2,_⟩:=hf p.1 hb;obtain ⟨o,e',d⟩:=ho p.1 hb;rw[e]at e';cases e';exact⟨e,f0,f1,f2,d⟩
theorem Inv.unpinned {pins pl:List (Addr×Obj)}{σ:St}{H:Hp}{s:Shared}(I:Inv X (pins++pl) σ H s):Inv X pins σ H s:=I.pins_of λp hp=>I.pin p (Ab9 _ (List.mem_append_left _ hp))
theorem Q6 {iter:Expr}{body:List Stmt}{wi:TI}{g:TG}{tb:TS}{pos:Pos}(hp:PassesOwn (model X.prog X.w) X.A X.env X.xe)(hc:X.calm=true)(hi:PI X tg iter wi)(hg:PG X tg g)(hb:PSs X body tb)
  (hs:∀x,foldedSetIterable iter X.env x=pure x:=by intro _;rfl):PS X (.For tg iter body [] pos) (cC9 wi g tb):=by
 refine⟨?_⟩;intro pins s σ H D I h;refine wpAny_For (thn (hi pins s σ H _ I h) λv s1 h1=>thn h1 λitv s2 h2=>?_) hs
 obtain ⟨it,fp,tn,J,H2,e,I2,T,st2,f2,W,⟨m0,w0⟩,turn⟩:=h2;subst e;have stat:∀{H':Hp},(∀b∈fp,H' b=none)->∀b∈fp,FpOk X pins H' b:=λhn b hb=>⟨hn b hb,(f2 b hb).2⟩
 refine codeAny_forLoop_any (λn s'=>∃i σ' H',Inv X pins σ' H' s'/\tn i s'.heap/\(∀b∈fp,H' b=none)/\W i n σ' H') ?_ m0 ⟨0,σ,H2,I2,st2,λb hb=>(f2 b hb).1,w0⟩
 rintro n s3 ⟨i,σ3,H3,I3,st3,fr3,w3⟩;rcases turn i n σ3 H3 w3 with ⟨stop,qn⟩ | ⟨go,N,hN,step⟩
 ·refine wpAny_passesOwn hp (thn (T.done X rfl rfl rfl hc i pins s3 σ3 H3 X.xe I3 (stat fr3) st3 stop) λr s4 ⟨hr,I4⟩=>?_)
  subst hr;exact wpAny_execs_nil ⟨σ3,H3,I4,qn⟩
 ·refine wpAny_passesOwn hp (thn (T.item X rfl rfl rfl hc i pins s3 σ3 H3 X.xe I3 (stat fr3) st3 go) λr s4 ⟨u,hr,h4⟩=>?_)
  subst hr;refine wpAny_passesOwn hp (thn h4 λ_ s5 ⟨x,H5,I5,r5,y5,st5,fr5⟩=>?_)
  have I5':=I5.pinned (stat fr5) (T.obj _ _ st5)
  refine wpAny_passesOwn hp (thn (hg _ s5 σ3 H5 x u _ I5' r5 (step x H5 y5)) λ_ s6 ⟨σ6,H6,I6,q6⟩=>?_)
  refine wpAny_passesOwn hp (thn (hb _ s6 σ6 H6 _ I6 q6) λf s7 q7=>?_)
  have again:∀{σ7:St} {H7:Hp},Inv X (pins++U3 fp s5.heap) σ7 H7 s7->N σ7 H7->∃m,m<n/\∃i σ' H',Inv X pins σ' H' s7/\tn i s7.heap/\(∀b∈fp,H' b=none)/\W i m σ' H':=λ{σ7 H7} I7 n7=>by
   obtain ⟨m',hm,w7⟩:=hN σ7 H7 n7;refine⟨m',hm,i+1,σ7,H7,I7.unpinned,T.keep _ _ _ st5 λb hb o e=>(I7.pin (b,o) (Ab9 _ (Ab9 _ (W2 hb e)))).1,λb hb=>?_,w7⟩
   obtain ⟨o,e,d⟩:=T.obj _ _ st5 b hb;exact(I7.pin (b,o) (Ab9 _ (Ab9 _ (W2 hb e)))).2.1
  cases f with
  | next=>obtain ⟨σ7,H7,I7,n7⟩:=q7;exact again I7 n7
  | cont=>obtain ⟨σ7,H7,I7,n7⟩:=q7;exact again I7 n7
  | brk=>obtain ⟨σ7,H7,I7,q7⟩:=q7;exact⟨σ7,H7,I7.unpinned,q7⟩
  | ret v=>obtain ⟨x7,σ7,H7,I7,r7,q7⟩:=q7;exact⟨x7,σ7,H7,I7.unpinned,r7,q7⟩
end
abbrev R2:=V->V->Hp->VK->Prop
def OpR (X:Cx)(f:Value->Value->Sem Value)(r:R2):Prop:=
 ∀(pins:List (Addr×Obj)) (s:Shared) (σ:St) (H:Hp) (x y:V) (v u:Value) (Q:VK),Inv X pins σ H s->RelV x v->RelV y u->r x y H Q ->
  wpAny (model X.prog X.w) X.A (f v u) (EP X pins σ Q) X.xe s
def UnR (X:Cx)(f:Value->Sem Value)(r:V->Hp->VK->Prop):Prop:=
 ∀(pins:List (Addr×Obj)) (s:Shared) (σ:St) (H:Hp) (x:V) (v:Value) (Q:VK),Inv X pins σ H s->RelV x v->r x H Q ->
  wpAny (model X.prog X.w) X.A (f v) (EP X pins σ Q) X.xe s
def X5 (X:Cx)(f:Value)(r:List V->Hp->VK->Prop):Prop:=
 ∀(pins:List (Addr×Obj)) (s:Shared) (σ:St) (H:Hp) (xs:List V) (us:List Value) (Q:VK),Inv X pins σ H s->Vals xs us->r xs H Q ->
  wpAny (model X.prog X.w) X.A (call f us) (EP X pins σ Q) X.xe s
def tOp (r:R2)(ta tb:TE):TE:=λσ H Q=>ta σ H λx H1=>tb σ H1 λy H2=>r x y H2 Q
def tUn (r:V->Hp->VK->Prop)(ta:TE):TE:=λσ H Q=>ta σ H λx H1=>r x H1 Q
def rI (C:Int->Int->Prop)(g:Int->Int->V):R2:=λx y H Q=>∃i j,x=.int i/\y=.int j/\C i j/\Q (g i j) H
def rI0 (g:Int->Int->V):R2:=λx y H Q=>∃i j,x=.int i/\y=.int j/\Q (g i j) H
def rU (g:Int->V):V->Hp->VK->Prop:=λx H Q=>∃i,x=.int i/\Q (g i) H
section
variable {X:Cx}{a b c:Expr}{ta tb tc:TE}{pos:Pos}
theorem bV2 (ha:PE X a ta)(hb:PE X b tb){pins:List (Addr×Obj)}{s:Shared}{σ:St}{H:Hp}{R:V->V->Hp->Prop}(I:Inv X pins σ H s)
  (h:ta σ H λx H1=>tb σ H1 λy H2=>R x y H2) {Q:Value->Shared->Prop} {f:Value->Value->Sem Value}
  (hf:∀v u s2 x y H2,Inv X pins σ H2 s2->RelV x v->RelV y u->R x y H2->wpAny (model X.prog X.w) X.A (f v u) Q X.xe s2) :
  wpAny (model X.prog X.w) X.A (eval a X.env) (λv s₁=>wpAny (model X.prog X.w) X.A (eval b X.env) (λu s₂=>wpAny (model X.prog X.w) X.A (f v u) Q X.xe s₂) X.xe s₁) X.xe s:=by
 refine thn (ha pins s σ H _ I h) λv s1 ⟨x,H1,I1,r1,q1⟩=>?_
 refine thn (hb pins s1 σ H1 _ I1 q1) λu s2 ⟨y,H2,I2,r2,q2⟩=>?_
 exact hf v u s2 x y H2 I2 r1 r2 q2
theorem B4 {op:Operator}{r:R2}(ho:OpR X (binaryOp op) r)(ha:PE X a ta)(hb:PE X b tb):PE X (.BinOp a op b pos) (tOp r ta tb):=by
 refine⟨?_⟩;intro pins s σ H Q I h;exact wpAny_BinOp (bV2 ha hb I h λv u s2 x y H2 I2 rx ry q=>ho pins s2 σ H2 x y v u Q I2 rx ry q)
theorem cA9 {op:UnaryOp}{r:V->Hp->VK->Prop}(ho:UnR X (unaryOp op) r)(ha:PE X a ta):PE X (.UnaryOp op a pos) (tUn r ta):=by
 refine⟨?_⟩;intro pins s σ H Q I h;exact UnaryOp_ (thn (ha pins s σ H _ I h) λv s1 ⟨x,H1,I1,r1,q1⟩=>ho pins s1 σ H1 x v Q I1 r1 q1)
theorem opI {f:Value->Value->Sem Value}{C:Int->Int->Prop}{g:Int->Int->Int}
  (rule:∀(i j:Int) (t u:Tok) (s:Shared) (Q:Value->Shared->Prop) (E:Value->Shared->Prop),C i j->Q (.int (g i j) s.toks) {s with toks:=s.toks+1}->wpAny (model X.prog X.w) X.A (f (.int i t) (.int j u)) Q E s) :
  OpR X f (rI C λi j=>.int (g i j)):=by
 intro pins s σ H x y v u Q I rx ry h;obtain ⟨i,j,rfl,rfl,hc,q⟩:=h;obtain ⟨t,rfl⟩:=rx;obtain ⟨t',rfl⟩:=ry;exact rule i j t t' s _ _ hc ⟨.int (g i j),H,I.tok _,⟨_,rfl⟩,q⟩
theorem cD0 {f:Value->Value->Sem Value}{g:Int->Int->Int}
  (rule:∀(i j:Int) (t u:Tok) (s:Shared) (Q:Value->Shared->Prop) (E:Value->Shared->Prop),Q (.int (g i j) s.toks) {s with toks:=s.toks+1}->wpAny (model X.prog X.w) X.A (f (.int i t) (.int j u)) Q E s) :
  OpR X f (rI0 λi j=>.int (g i j)):=by
 intro pins s σ H x y v u Q I rx ry h;obtain ⟨i,j,rfl,rfl,q⟩:=h;obtain ⟨t,rfl⟩:=rx;obtain ⟨t',rfl⟩:=ry;exact rule i j t t' s _ _ ⟨.int (g i j),H,I.tok _,⟨_,rfl⟩,q⟩
theorem bX0 {f:Value->Value->Sem Value}{g:Int->Int->Bool}
  (rule:∀(i j:Int) (t u:Tok) (s:Shared) (Q:Value->Shared->Prop) (E:Value->Shared->Prop),Q (.bool (g i j)) s->wpAny (model X.prog X.w) X.A (f (.int i t) (.int j u)) Q E s) :
  OpR X f (rI0 λi j=>.bl (g i j)):=by
 intro pins s σ H x y v u Q I rx ry h;obtain ⟨i,j,rfl,rfl,q⟩:=h;obtain ⟨t,rfl⟩:=rx;obtain ⟨t',rfl⟩:=ry;exact rule i j t t' s _ _ ⟨.bl (g i j),H,I,rfl,q⟩
def cE2 (i j:Int):Prop:=0<j/\j<1073741824
def cE0 (i j:Int):Prop:=0<=j/\j<=1000000/\i.natAbs<2^64
theorem F8:OpR X (binaryOp .Add) (rI0 λi j=>.int (i+j)):=cD0 λ_ _ _ _ _ _ _ q=>add_int q
theorem aH2:OpR X (binaryOp .Sub) (rI0 λi j=>.int (i-j)):=cD0 λ_ _ _ _ _ _ _ q=>sub_int q
theorem aH0:OpR X (binaryOp .FloorDiv) (rI cE2 λi j=>.int (i / j)):=opI λi j _ _ _ _ _ hc q=>by
 have h1:(0:Int)<j:=hc.1
 have h2:j<1073741824:=hc.2
 exact floordiv_int (by omega) (by rw[Int.fdiv_eq_ediv_of_nonneg i (by omega)];exact q) (.inl (PyProof.noPylong_small (by omega)))
theorem M5:OpR X (binaryOp .Mod) (rI (λ_ j=>0<j) λi j=>.int (i % j)):=opI λi j _ _ _ _ _ hc q=>by
 have h1:(0:Int)<j:=hc
 exact mod_int' (by omega) (by rw[Int.fmod_eq_emod_of_nonneg i (by omega)];exact q)
theorem bG7:OpR X (binaryOp .Pow) (rI cE0 λi j=>.int (i^j.toNat)):=opI λ_ _ _ _ _ _ _ hc q=>pow_int_small hc.1 hc.2.1 hc.2.2 q
theorem unI {f:Value->Sem Value}{g:Int->Int}
  (rule:∀(i:Int) (t:Tok) (s:Shared) (Q:Value->Shared->Prop) (E:Value->Shared->Prop),Q (.int (g i) s.toks) {s with toks:=s.toks+1}->wpAny (model X.prog X.w) X.A (f (.int i t)) Q E s) :
  UnR X f (rU λi=>.int (g i)):=by
 intro pins s σ H x v Q I rx h;obtain ⟨i,rfl,q⟩:=h;obtain ⟨t,rfl⟩:=rx;exact rule i t s _ _ ⟨.int (g i),H,I.tok _,⟨_,rfl⟩,q⟩
theorem bW8:UnR X (unaryOp .USub) (rU λi=>.int (-i)):=unI λ_ _ _ _ _ q=>neg_int q
end
def bY7:V->V->Bool
 | .non,.non=>true | .non,.int _=>true | .int _,.non=>true | .non,.bl _=>true | .bl _,.non=>true | .non,.str _=>true | .str _,.non=>true
 | .int _,.int _=>true | .bl _,.bl _=>true | .str _,.str _=>true | .byt _,.byt _=>true
 | .int _,.str _=>true | .str _,.int _=>true | .bl _,.str _=>true | .str _,.bl _=>true
 | _,_=>false
def rEq:R2:=λx y H Q=>bY7 x y=true/\Q (.bl (decide (x=y))) H
def rNe:R2:=λx y H Q=>bY7 x y=true/\Q (.bl (!decide (x=y))) H
theorem aS9 {i j:Int}:decide (V.int i=V.int j)=(i==j):=by
 rw[Bool.eq_iff_iff]
 simp
theorem aZ9 {i j:Bool}:decide (V.bl i=V.bl j)=(i==j):=by
 rw[Bool.eq_iff_iff]
 simp
theorem aW3 {i j:Str}:decide (V.str i=V.str j)=(i==j):=by
 rw[Bool.eq_iff_iff]
 simp
theorem aV0 {i j:Array UInt8}:decide (V.byt i=V.byt j)=(i.toList==j.toList):=by
 rw[Bool.eq_iff_iff];cases i;cases j
 simp
section
variable {X:Cx}{a b c:Expr}{ta tb tc:TE}{pos:Pos}
theorem C0 {pins:List (Addr×Obj)}{σ:St}{H:Hp}{s:Shared}{Q:VK}{k k':Bool}(I:Inv X pins σ H s)(q:Q (.bl k) H)(e:k=k'):EP X pins σ Q (.bool k') s:=by
 subst e;exact⟨.bl k,H,I,rfl,q⟩
theorem aE1:OpR X (compareOp .Eq) rEq:=by
 intro pins s σ H x y v u Q I rx ry h;obtain ⟨hs,q⟩:=h;cases x with
 | non=>
  cases rx
  cases y with
  | non=>cases ry;exact PySem.EqNone.eq_none_none (C0 I q (by simp))
  | bl j=>cases ry;exact PySem.EqNone.eq_none_bool (C0 I q (by simp))
  | int j=>obtain ⟨t',rfl⟩:=ry;exact PySem.EqNone.eq_none_int (C0 I q (by simp))
  | str j=>obtain ⟨t',rfl⟩:=ry;exact PySem.EqNone.eq_none_str (C0 I q (by simp))
  | _=>exact absurd (show false=true from hs) Bool.false_ne_true
 | bl i=>
  cases rx
  cases y with
  | non=>cases ry;exact PySem.EqNone.eq_bool_none (C0 I q (by simp))
  | bl j=>cases ry;exact eq_bool (C0 I q aZ9)
  | str j=>obtain ⟨t',rfl⟩:=ry;exact PySem.EqMixed.eq_bool_str (C0 I q (by simp))
  | _=>exact absurd (show false=true from hs) Bool.false_ne_true
 | int i=>
  obtain ⟨t,rfl⟩:=rx;cases y with
  | non=>cases ry;exact PySem.EqNone.eq_int_none (C0 I q (by simp))
  | int j=>obtain ⟨t',rfl⟩:=ry;exact eq_int (C0 I q aS9)
  | str j=>obtain ⟨t',rfl⟩:=ry;exact PySem.EqMixed.eq_int_str (C0 I q (by simp))
  | _=>exact absurd (show false=true from hs) Bool.false_ne_true
 | str i=>
  obtain ⟨t,rfl⟩:=rx;cases y with
  | non=>cases ry;exact PySem.EqNone.eq_str_none (C0 I q (by simp))
  | bl j=>cases ry;exact PySem.EqMixed.eq_str_bool (C0 I q (by simp))
  | int j=>obtain ⟨t',rfl⟩:=ry;exact PySem.EqMixed.eq_str_int (C0 I q (by simp))
  | str j=>obtain ⟨t',rfl⟩:=ry;exact eq_str (C0 I q aW3)
  | _=>exact absurd (show false=true from hs) Bool.false_ne_true
 | byt i=>
  obtain ⟨t,rfl⟩:=rx;cases y with
  | byt j=>obtain ⟨t',rfl⟩:=ry;exact PySem.W.eq_bytes (C0 I q aV0)
  | _=>exact absurd (show false=true from hs) Bool.false_ne_true
 | _=>cases y <;> exact absurd (show false=true from hs) Bool.false_ne_true
theorem aR9:OpR X (compareOp .NotEq) rNe:=by
 intro pins s σ H x y v u Q I rx ry h;obtain ⟨hs,q⟩:=h;cases x with
 | non=>
  cases rx
  cases y with
  | non=>cases ry;exact PySem.EqNone.ne_none_none (C0 I q (by simp))
  | bl j=>cases ry;exact PySem.EqNone.ne_none_bool (C0 I q (by simp))
  | int j=>obtain ⟨t',rfl⟩:=ry;exact PySem.EqNone.ne_none_int (C0 I q (by simp))
  | str j=>obtain ⟨t',rfl⟩:=ry;exact PySem.EqNone.ne_none_str (C0 I q (by simp))
  | _=>exact absurd (show false=true from hs) Bool.false_ne_true
 | bl i=>
  cases rx
  cases y with
  | non=>cases ry;exact PySem.EqNone.ne_bool_none (C0 I q (by simp))
  | bl j=>cases ry;exact ne_bool (C0 I q (congrArg not aZ9))
  | str j=>obtain ⟨t',rfl⟩:=ry;exact PySem.EqMixed.ne_bool_str (C0 I q (by simp))
  | _=>exact absurd (show false=true from hs) Bool.false_ne_true
 | int i=>
  obtain ⟨t,rfl⟩:=rx;cases y with
  | non=>cases ry;exact PySem.EqNone.ne_int_none (C0 I q (by simp))
  | int j=>obtain ⟨t',rfl⟩:=ry;exact ne_int (C0 I q (congrArg not aS9))
  | str j=>obtain ⟨t',rfl⟩:=ry;exact PySem.EqMixed.ne_int_str (C0 I q (by simp))
  | _=>exact absurd (show false=true from hs) Bool.false_ne_true
 | str i=>
  obtain ⟨t,rfl⟩:=rx;cases y with
  | non=>cases ry;exact PySem.EqNone.ne_str_none (C0 I q (by simp))
  | bl j=>cases ry;exact PySem.EqMixed.ne_str_bool (C0 I q (by simp))
  | int j=>obtain ⟨t',rfl⟩:=ry;exact PySem.EqMixed.ne_str_int (C0 I q (by simp))
  | str j=>obtain ⟨t',rfl⟩:=ry;exact ne_str (C0 I q (congrArg not aW3))
  | _=>exact absurd (show false=true from hs) Bool.false_ne_true
 | byt i=>
  obtain ⟨t,rfl⟩:=rx;cases y with
  | byt j=>obtain ⟨t',rfl⟩:=ry;exact PySem.W.ne_bytes (C0 I q (congrArg not aV0))
  | _=>exact absurd (show false=true from hs) Bool.false_ne_true
 | _=>cases y <;> exact absurd (show false=true from hs) Bool.false_ne_true
theorem aL0:OpR X (compareOp .Lt) (rI0 λi j=>.bl (decide (i<j))):=bX0 λ_ _ _ _ _ _ _ q=>lt_int q
theorem aV8:OpR X (compareOp .LtE) (rI0 λi j=>.bl (decide (i<=j))):=bX0 λ_ _ _ _ _ _ _ q=>le_int q
theorem aS5:OpR X (compareOp .Gt) (rI0 λi j=>.bl (decide (j<i))):=bX0 λ_ _ _ _ _ _ _ q=>gt_int q
theorem bV4:OpR X (compareOp .Is) (λx y H Q=>y=.non/\Q (.bl (decide (x=.non))) H):=by
 intro pins s σ H x y v u Q I rx ry h;obtain ⟨rfl,q⟩:=h;cases ry;refine is_none_gen (C0 I q ?_);cases x <;> first
  | (cases rx;rfl)
  | (obtain ⟨t,rfl⟩:=rx;rfl)
theorem D9 (b:Expr){op:CmpOp}(h:op≠.In:=by decide)(h2:op≠.NotIn:=by decide):behindInMarks op b=false:=by
 have e1:(op==CmpOp.In)=false:=by cases op <;> first | rfl | exact absurd rfl h
 have e2:(op==CmpOp.NotIn)=false:=by cases op <;> first | rfl | exact absurd rfl h2
 cases b <;> simp[behindInMarks,e1,e2]
theorem aU4 {op:CmpOp}{r:R2}(ho:OpR X (compareOp op) r)(ha:PE X a ta)(hb:PE X b tb)(hm:behindInMarks op b=false):PE X (.Compare a [op] [b] pos) (tOp r ta tb):=by
 refine⟨?_⟩;intro pins s σ H Q I h;exact wpAny_Compare1 (bV2 ha hb I h λv u s2 x y H2 I2 rx ry q=>ho pins s2 σ H2 x y v u Q I2 rx ry q) hm
def aW2 (t:TE):TT:=λσ H Q=>t σ H λx H'=>∃k,x=.bl k/\Q k H'
theorem C9 {op:CmpOp}{r:R2}(ho:OpR X (compareOp op) r)(ha:PE X a ta)(hb:PE X b tb)(hm:behindInMarks op b=false):PT X (.Compare a [op] [b] pos) (aW2 (tOp r ta tb)):=by
 refine⟨?_⟩;intro pins s σ H Q I h;refine wpAny_isTrue_Compare1 (thn (ha pins s σ H _ I h) λv s1 ⟨x,H1,I1,r1,q1⟩=>thn (hb pins s1 σ H1 _ I1 q1) λu s2 ⟨y,H2,I2,r2,q2⟩=>
  thn (ho pins s2 σ H2 x y v u _ I2 r1 r2 q2) λc s3 ⟨z,H3,I3,r3,k,e,q3⟩=>?_) hm
 subst e;cases r3;exact wpAny_truthy_bool ⟨H3,I3,q3⟩
def bB3 (r r':R2)(ta tb tc:TE):TE:=λσ H Q=>ta σ H λx H1=>tb σ H1 λy H2=>r x y H2 λz H3=>∃k,z=.bl k /\
 (if k=true then tc σ H3 λw' H4=>r' y w' H4 Q else Q (.bl false) H3)
theorem aM0 {op op':CmpOp}{r r':R2}(ho:OpR X (compareOp op) r)(ho':OpR X (compareOp op') r')(ha:PE X a ta)(hb:PE X b tb)(hc:PE X c tc)
  (hm:lastMarks [op,op'] [b,c]=false:=by with_unfolding_all rfl):PE X (.Compare a [op,op'] [b,c] pos) (bB3 r r' ta tb tc):=by
 refine⟨?_⟩;intro pins s σ H Q I h;refine Compare_chain (thn (ha pins s σ H _ I h) λv s1 ⟨x,H1,I1,r1,q1⟩=>chain_link (thn (hb pins s1 σ H1 _ I1 q1) λu s2 ⟨y,H2,I2,r2,q2⟩=>
  thn (ho pins s2 σ H2 x y v u _ I2 r1 r2 q2) λd s3 ⟨z,H3,I3,r3,k,e,q3⟩=>?_)) hm
 subst e;cases r3;refine wpAny_truthy_bool ?_;cases k with
 | false=>exact ite_ff ⟨.bl false,H3,I3,rfl,q3⟩
 | true=>exact ite_tt (chain_last (thn (hc pins s3 σ H3 _ I3 q3) λw' s4 ⟨z',H4,I4,r4,q4⟩=>ho' pins s4 σ H4 y z' u w' Q I4 r2 r4 q4))
theorem r0:(sizeLine:Nat)<2^63:=by rw[sizeLine_eq];decide
theorem V2:OpR X (binaryOp .Add) (λx y H Q=>∃i j,x=.str i/\y=.str j/\i.length+j.length<=sizeLine/\Q (.str (i++j)) H):=by
 intro pins s σ H x y v u Q I rx ry h;obtain ⟨i,j,rfl,rfl,hz,q⟩:=h;obtain ⟨t,rfl⟩:=rx;obtain ⟨t',rfl⟩:=ry;exact add_str (λt' tk=>⟨.str (i++j),H,I.tok _,⟨_,rfl⟩,q⟩) hz
theorem u5 {x:V}{us:List Value}(r:Vals [x] us):∃u,us=[u]/\RelV x u:=by
 cases r with
 | cons r1 r2=>cases r2;exact⟨_,rfl,r1⟩
theorem aE3:X5 X (.type "int") (λxs H Q=>(∃i,xs=[.int i]/\Q (.int i) H)\/∃k,xs=[.bl k]/\Q (.int (if k then 1 else 0)) H):=by
 intro pins s σ H xs us Q I r h;rcases h with ⟨i,rfl,q⟩ | ⟨k,rfl,q⟩
 ·obtain ⟨u,rfl,t,rfl⟩:=u5 r;exact call_int_int ⟨.int i,H,I,⟨_,rfl⟩,q⟩
 ·obtain ⟨u,rfl,r1⟩:=u5 r;cases r1;exact call_int_bool ⟨.int (if k then 1 else 0),H,I.tok _,⟨_,rfl⟩,q⟩
end
structure Cls (K:PySem.W.Frag)(C:Addr):Prop where
 pg:PySem.W.plainGet K C Str.empty=true
 hd:PySem.W.hasDictIn K C=true
 po:PySem.W.plainOver K C=true
 sa:PySem.W.findIn K (.ref C) "__setattr__" = some (some (.builtin "object.__setattr__"))
structure Room (k:Nat)(A:Around):Prop where
 hd:A.handled=none
 dp:A.depth+3*k+5<recursionLimit
 un:A.units+16*k+200<cLine
theorem Room.mono {j k:Nat}{A:Around}(r:Room k A)(h:j<=k):Room j A:=⟨r.hd,by have:=r.dp;omega,by have:=r.un;omega⟩
theorem Room.deeper {k:Nat}{A:Around}(r:Room (k+1) A)(env:Env):Room k (A.deeper env):=
 ⟨r.hd,by have:=r.dp;show A.depth+1+3*k+5<_;omega,by have:=r.un;show A.units+3+16*k+200<_;omega⟩
theorem Room.depth {k:Nat}{A:Around}(r:Room k A):A.depth<recursionLimit:=by have:=r.dp;omega
def i5:TA:=λ_ H Q=>Q [] H
def G5 (ta:TE)(tr:TA):TA:=λσ H Q=>ta σ H λx H1=>tr σ H1 λxs H2=>Q (x::xs) H2
section
variable {X:Cx}{e:Expr}{es:List Expr}{te:TE}{t:TA}{pos:Pos}
theorem A2:PA X [] i5:=⟨λ_ _ _ _ H Q I h=>Calls.spliced_nil ⟨[],H,I,.nil,h⟩⟩
theorem bK3 (ha:PE X e te)(hr:PA X es t)(hs:starEach (e::es) X.env=(false,eval e X.env)::starEach es X.env:=by rfl):PA X (e::es) (G5 te t):=by
 refine⟨?_⟩;intro pos pins s σ H Q I h;rw[hs];show wpAny _ _ (spliced ((false,eval e X.env)::backTo pos (starEach es X.env))) _ _ s;refine Calls.spliced_cons (thn (ha pins s σ H _ I h) λu s1 ⟨x,H1,I1,r1,q1⟩=>?_)
 exact thn (hr pos pins s1 σ H1 _ I1 q1) λus s2 ⟨xs,H2,I2,r2,q2⟩=>⟨x::xs,H2,I2,.cons r1 r2,q2⟩
def bR6 (t:TA):TE:=λσ H Q=>t σ H λxs H1=>xs.length<=sizeLine/\∀p,H1 p=none->Q (.ref p) (upd H1 p (.tup xs))
def cB5 (t:TA):TE:=λσ H Q=>t σ H λxs H1=>xs.length<=sizeLine/\∀p,H1 p=none->Q (.ref p) (upd H1 p (.lst xs))
theorem t6 {x1}(h:PA X es t):PE X (.Tuple es x1 pos) (bR6 t):=by
 refine⟨?_⟩;intro pins s σ H Q I hq;refine wpAny_Tuple_spliced (thn (h pos pins s σ H _ I hq) λus s1 ⟨xs,H1,I1,r,z,q⟩=>⟨by rw[<- r.length];exact z,?_⟩)
 have hf:H1 s1.heap.objs.size=none:=I1.hok.fresh (Aa6 _)
 refine⟨.ref s1.heap.objs.size,upd H1 s1.heap.objs.size (.tup xs),I1.laid (t':=s1.toks) (λb u e=>Aa5 _ e) (Aa6 _) ?_,rfl,q _ hf⟩
 exact⟨z,us,r,⟨_,Ac1 _ rfl,rfl,⟨_,rfl⟩,rfl⟩⟩
theorem M7 (h:PA X es t):PE X (.List es pos) (cB5 t):=by
 refine⟨?_⟩;intro pins s σ H Q I hq;refine wpAny_List_spliced (thn (h pos pins s σ H _ I hq) λus s1 ⟨xs,H1,I1,r,z,q⟩=>⟨by rw[<- r.length];exact z,?_⟩)
 have hf:H1 s1.heap.objs.size=none:=I1.hok.fresh (Aa6 _)
 refine⟨.ref s1.heap.objs.size,upd H1 s1.heap.objs.size (.lst xs),I1.laid (t':=s1.toks) (λb u e=>Aa5 _ e) (Aa6 _) ?_,rfl,q _ hf⟩
 exact⟨z,us,0,r,Ac1 _ rfl⟩
end
abbrev Sp:=List V->Hp->VK->XK->Prop
abbrev CXT:=List Env->Hp->Shared->XK->Value->Shared->Prop
structure aW9 (P:Program)(w:World)(K:PySem.W.Frag)(mg:Str->Option Value)(base:Heap)(A:Around)(outer:List Env)(s:Shared)(H:Hp):Prop where
 frames:A.frames=some outer
 mod:Mod K mg base
 bs:∀b o,base.get? b=some o->s.heap.get? b=some o/\H b=none
 bsz:base.objs.size<=s.heap.objs.size
 funs:s.heap.FunFrames base outer
 frf:∀b∈frs outer,H b=none
 hok:HOk P w H s.heap
 bare:AllBare s.gens
def CE (outer:List Env)(P:Program)(w:World)(H:Hp)(s:Shared)(Q:VK)(u:Value)(s':Shared):Prop:=
 ∃v H',s'.os=s.os/\AllBare s'.gens/\Un (frs outer) [] H H' s.heap s'.heap/\HOk P w H' s'.heap/\RelV v u/\Q v H'
def CR (CX:CXT)(outer:List Env)(P:Program)(w:World)(H:Hp)(s:Shared)(Q:VK)(E:XK)(r:Result)(s':Shared):Prop:=
 match r with
 | .ok (.ret u)=>CE outer P w H s Q u s'
 | .ok _=>False
 | .error e=>CX outer H s E e s'
structure D6 (P:Program)(w:World)(K:PySem.W.Frag)(mg:Str->Option Value)(base:Heap)(CX:CXT)(k:Nat)(f:Addr)(fd:FuncData)(ps:List Str)(sp:Sp):Prop where
 len:∀vs H Q E,sp vs H Q E->vs.length=ps.length
 run:∀(A:Around) (outer:List Env) (s:Shared) (H:Hp) (args:Args) (us:List Value) (vs:List V) (Q:VK) (E:XK),Room k A->aW9 P w K mg base A outer s H->BindsTo s fd args (ps.zip us)->Vals vs us->sp vs H Q E ->
  codeAny (model P w) A (.call (.ref f) args) (CR CX outer P w H s Q E) s
section
variable {X:Cx}{pins:List (Addr×Obj)}{σ:St}{H:Hp}{s s':Shared}
theorem Inv.env0 (I:Inv X pins σ H s):aW9 X.prog X.w X.K X.mg X.base X.A X.stack s H:=
 ⟨I.ok.frames,I.ok.mod,I.bs,Nat.le_trans I.ok.bsz I.sz,I.stack,I.stkFree,I.hok,I.bare⟩
theorem Inv.after {Q:VK}{u:Value}(I:Inv X pins σ H s)(h:CE X.stack X.prog X.w H s Q u s'):EP X pins σ Q u s':=by
 obtain ⟨v,H',os,bare,un,hok,r,q⟩:=h;obtain ⟨hh,g,d,t,os'⟩:=s';obtain rfl:os'=s.os:=os;exact⟨v,H',I.call (h':=hh) (g':=g) (d':=d) (t':=t) (ch:=[]) un hok bare (λb z=>absurd z (by simp)),r,q⟩
end
def a3 (sp:Sp)(dvs:List V)(E:XK)(t:TA):TE:=λσ H Q=>t σ H λvs H1=>sp (vs++dvs) H1 Q E
def Binds (K:PySem.W.Frag)(fd:FuncData)(ps:List Str)(ds:List Value):Prop:=
 ∀(s:Shared) (us:List Value),K.In s.heap->(us++ds).length=ps.length->BindsTo s fd ⟨us,[]⟩ (ps.zip (us++ds))
theorem Binds.all {K:PySem.W.Frag}{fd:FuncData}{ps:List Str}(h:∀us:List Value,us.length=ps.length->bindArgs fd ⟨us,[]⟩=pure (ps.zip us)):Binds K fd ps []:=λs us _ hl=>by
 rw[List.append_nil]at hl ⊢;exact .of_eq (h us hl)
def aB3 (CX:CXT)(X:Cx)(E:XK):Prop:=∀(pins:List (Addr×Obj)) (σ:St) (H:Hp) (s:Shared) (e:Value) (s':Shared),Inv X pins σ H s->CX X.stack H s E e s'->X.xe e s'
section
variable {X:Cx}{CX:CXT}{k:Nat}{f C:Addr}{fd:FuncData}{ps:List Str}{sp:Sp}{dvs:List V}{ds:List Value}{E:XK}{x m:Str}{p pos apos:Pos}{e o:Expr}{es:List Expr}{ta:TE}{t:TA}
theorem bW0 {pins:List (Addr×Obj)}{σ:St}{H:Hp}{s:Shared}{Q:VK}{us:List Value}{vs:List V}(F:D6 X.prog X.w X.K X.mg X.base CX k f fd ps sp)(hr:Room k X.A)(hb:Binds X.K fd ps ds)(hd:Vals dvs ds)(hx:aB3 CX X E)
  (I:Inv X pins σ H s) (r:Vals vs us) (h:sp (vs++dvs) H Q E):wpAny (model X.prog X.w) X.A (call (.ref f) us) (EP X pins σ Q) X.xe s:=by
 have r2:Vals (vs++dvs) (us++ds):=r.append hd
 have hl:(us++ds).length=ps.length:=by rw[<- r2.length];exact F.len _ _ _ _ h
 refine wpAny_call (codeAny_mono (F.run X.A X.stack s H ⟨us,[]⟩ (us++ds) (vs++dvs) Q E hr I.env0 (hb s us I.kIn hl) r2 h) λr s' hq=>?_)
 cases r with
 | error e=>exact hx pins σ H s e s' I hq
 | ok fl=>
  cases fl with
  | ret u=>exact I.after hq
  | next=>exact False.elim hq
  | brk=>exact False.elim hq
  | cont=>exact False.elim hq
theorem B8 (F:D6 X.prog X.w X.K X.mg X.base CX k f fd ps sp)(hr:Room k X.A)(hg:Gl X x)(hm:X.mg x=some (.ref f))(hk:PySem.W.keepIn X.K (.ref f)=true)(hb:Binds X.K fd ps ds)(hd:Vals dvs ds)(hx:aB3 CX X E)
  (ha:PA X (e::es) t) (hdb:(x==("__debug__" : Str))=false:=by decide) (he:starEach (e::es) X.env=(false,eval e X.env)::starEach es X.env:=by rfl) (hpl:(backTo pos (starEach es X.env)).any (·.1)=false:=by rfl) :
  PE X (.Call (.Name x p) (e::es) [] pos) (a3 sp dvs E t):=by
 refine⟨?_⟩;intro pins s σ H Q I h;refine wpAny_Call_Name_kw (Z1 I hg hm ?_ hdb);refine PySem.W.callWith_K (h₀:=X.base) I.ok.mod.kin hk (thn (ha pos pins s σ H _ I h) λus s1 ⟨vs,H1,I1,r,q⟩=>⟨I1.kIn,?_⟩) he hpl
 exact bW0 F hr hb hd hx I1 r q
end
structure C2 (N P:List Str)(sc:Scope):Prop where
 kind:sc.kind=.function
 co:sc.isCoroutine=false
 gen:sc.isGenerator=false
 nd:N.Nodup
 pre:N.take P.length=P
 par:∀x∈P,sc.names.lookup x=some .local\/sc.names.lookup x=some .cell
 nofree:∀y∈sc.names,y.2≠.free
theorem aD2 {kindOf:Str->Option NameKind}{x:Str}:∀{binds:List (Str×Value)} {m:Str->Option Value},(∀v,(x,v)∉binds)->bindL kindOf binds m x=m x
 | [],_,_=>rfl
 | (n,v)::r,m,h=>by
  unfold bindL;rw[aD2 λw hw=>h w (Ac8 _ hw)]
  split
  ·have:x≠n:=by rintro rfl;exact h v List.mem_cons_self
   simp[this]
  ·rfl
theorem aE8 {kindOf:Str->Option NameKind}{x:Str}:∀{binds:List (Str×Value)} {m:Str->Option Value},(∀v,(x,v)∉binds)->bindC kindOf binds m x=m x
 | [],_,_=>rfl
 | (n,v)::r,m,h=>by
  unfold bindC;rw[aE8 λw hw=>h w (Ac8 _ hw)]
  split
  ·rfl
  ·have:x≠n:=by rintro rfl;exact h v List.mem_cons_self
   simp[this]
theorem aF4 {kindOf:Str->Option NameKind}{x:Str}{v:Value}:∀{P:List Str} {vs:List Value} {i:Nat} {m:Str->Option Value},P.Nodup->P[i]? = some x->vs[i]? = some v->kindOf x=some .local ->
  bindL kindOf (P.zip vs) m x=some v
 | [],_,_,_,_,h,_,_=>by simp at h
 | _::_,[],_,_,_,_,h,_=>by simp at h
 | p::P,w::vs,0,m,nd,h1,h2,hk=>by
  simp at h1 h2;subst h1;subst h2
  show bindL kindOf ((p,w)::P.zip vs) m p=_
  unfold bindL;rw[aD2 λv hv=>(Aa4.mp nd).1 (List.of_mem_zip hv).1,if_pos hk]
  simp
 | p::P,w::vs,i+1,m,nd,h1,h2,hk=>by
  show bindL kindOf ((p,w)::P.zip vs) m x=_
  unfold bindL;exact aF4 (i:=i) (Aa4.mp nd).2 (by simpa using h1) (by simpa using h2) hk
theorem aF6 {kindOf:Str->Option NameKind}{x:Str}{v:Value}:∀{P:List Str} {vs:List Value} {i:Nat} {m:Str->Option Value},P.Nodup->P[i]? = some x->vs[i]? = some v->kindOf x≠some .local ->
  bindC kindOf (P.zip vs) m x=some v
 | [],_,_,_,_,h,_,_=>by simp at h
 | _::_,[],_,_,_,_,h,_=>by simp at h
 | p::P,w::vs,0,m,nd,h1,h2,hk=>by
  simp at h1 h2;subst h1;subst h2
  show bindC kindOf ((p,w)::P.zip vs) m p=_
  unfold bindC;rw[aE8 λv hv=>(Aa4.mp nd).1 (List.of_mem_zip hv).1,if_neg hk]
  simp
 | p::P,w::vs,i+1,m,nd,h1,h2,hk=>by
  show bindC kindOf ((p,w)::P.zip vs) m x=_
  unfold bindC;exact aF6 (i:=i) (Aa4.mp nd).2 (by simpa using h1) (by simpa using h2) hk
def G3 (N:List Str)(vs:List V):St:=vs.map some++List.replicate (N.length-vs.length) none
def v6 (CX:CXT)(P:Program)(w:World)(K:PySem.W.Frag)(mg:Str->Option Value)(base:Heap)(N:List Str)(qual:Str)(scope:Scope)(f:Addr)(cd:Value)(A:Around)(outer:List Env)(s:Shared)(H:Hp)(E:XK):Cx where
 prog:=P
 w:=w
 K:=K
 mg:=mg
 base:=base
 A:=A.deeper (envOfC qual scope s.heap.objs.size f cd)
 N:=N
 s₀:=s
 H₀:=H
 env:=envOfC qual scope s.heap.objs.size f cd
 outer:=outer
 stack:=envOfC qual scope s.heap.objs.size f cd::outer
 ex:=[]
 calm:=true
 fn:=λ_=>true
 pn:=[]
 xe:=λe s'=>wpAny (model P w) (A.deeper (envOfC qual scope s.heap.objs.size f cd)) (leaving (envOfC qual scope s.heap.objs.size f cd) e) (λ_ s''=>CX outer H s E e s'') (λe' s''=>CX outer H s E e' s'') s'
theorem aO0 {sc:Scope}{n:Nat}{x:Str}(h:sc.names.lookup x=some .cell):∃c,(cellsFrom n sc.names []).lookup x=some c:=by
 have q:=PySem.W.cellsFrom_some sc.names n [] (.inl h)
 exact Option.isSome_iff_exists.mp q
theorem aE9 {CX:CXT}{P:Program}{w:World}{K:PySem.W.Frag}{mg:Str->Option Value}{base:Heap}{N ps:List Str}{qual:Str}{scope:Scope}{f:Addr}{cd:Value}{A:Around}{outer:List Env}{s s1:Shared}{H:Hp}{E:XK}{us:List Value}{vs:List V}
  (S:C2 N ps scope) (hd:A.handled=none) (e0:aW9 P w K mg base A outer s H) (hl:vs.length=ps.length) (r:Vals vs us)
  (x:InCallC s s.heap.objs.size (bindL (envOfC qual scope s.heap.objs.size f cd).kindOf (ps.zip us) λ_=>none) (cellsFrom (s.heap.objs.size+1) scope.names []) (bindC (envOfC qual scope s.heap.objs.size f cd).kindOf (ps.zip us) λ_=>none) s1) :
  Inv (v6 CX P w K mg base N qual scope f cd A outer s H E) [] (G3 N vs) H s1:=by
 have hpl:ps.length<=N.length:=by have:=congrArg List.length S.pre;rw[Ac6]at this;omega
 obtain ⟨h1,tk,rfl,hk⟩:=x.done;have noA:∀b:Addr,b∉(v6 CX P w K mg base N qual scope f cd A outer s H E).ex:=λb z=>absurd (show b∈([]:List Addr) from z) (by simp)
 refine⟨⟨e0.mod,S.kind,rfl,rfl,Aa6 _,λy z c h1 h2=>?_,λy hy=>?_,λy c _ h=>?_,λ_=>hd,Around.frames_deeper e0.frames,.inr ⟨rfl,rfl⟩,λb z=>absurd z (noA b),e0.bs,e0.bsz,λb _ _=>noA b,λb z=>absurd z (noA b),e0.funs,e0.frf⟩,
  rfl,e0.bare,Un.kept hk,⟨_,x.toInCall.ns,λi y v h1 h2 h3=>?_⟩,λy c h=>⟨_,x.cell y c h⟩,e0.hok.fresh (Aa6 _),λy c h=>?_,λp hp=>absurd (show p∈([]:List (Addr×Obj)) from hp) (by simp),e0.hok.kept hk,?_⟩
 ·exact name_of_addr x.apart (PySem.mem_of_lookup h1) (PySem.mem_of_lookup h2)
 ·have hy:scope.names.lookup y=some .cell\/scope.names.lookup y=some .free:=hy
  rcases hy with hy | hy
  ·exact aO0 hy
  ·exact absurd rfl (S.nofree _ (PySem.mem_of_lookup hy))
 ·exact Nat.le_of_lt (x.above y c (PySem.mem_of_lookup h))
 ·have hi:i<vs.length:=by
   unfold G3 at h2;by_cases hi:i<vs.length
   ·exact hi
   ·rw[List.getElem?_append_right (by simpa using hi)]at h2
    rw[List.getElem?_replicate]at h2;split at h2 <;> cases h2
  have ha:vs[i]? = some v:=by
   unfold G3 at h2;rw[List.getElem?_append_left (by simpa using hi),Aa8]at h2
   cases e:vs[i]? with
   | none=>rw[e]at h2;cases h2
   | some a=>rw[e]at h2;cases h2;rfl
  obtain ⟨u,hu,rv⟩:=r.get ha;have hp:ps[i]? = some y:=by
   rw[<- S.pre,List.getElem?_take_of_lt (by omega)];exact h1
  have ndP:ps.Nodup:=by rw[<- S.pre];exact S.nd.sublist (List.take_sublist _ _)
  refine⟨u,rv,?_⟩;rcases S.par y (List.mem_of_getElem? hp) with k | k
  ·exact .inl ⟨k,aF4 ndP hp hu k⟩
  ·obtain ⟨c,e⟩:=aO0 (n:=s.heap.objs.size+1) k;refine .inr ⟨.inl k,c,e,?_⟩;have q:=x.cell y c e;rw[aF6 ndP hp hu (by show scope.names.lookup y≠_;rw[k];decide)]at q
   exact q
 ·exact e0.hok.fresh (Nat.le_of_lt (x.above y c (PySem.mem_of_lookup h)))
 ·unfold G3;show _=N.length;rw[Ab5,Aa3,List.length_replicate];omega
theorem bO6 {CX:CXT}{P:Program}{w:World}{K:PySem.W.Frag}{mg:Str->Option Value}{base:Heap}{k:Nat}{f:Addr}{name qual:Str}{params:Arguments}{body:List Stmt}{scope:Scope}{dV kV doc pm cdv ct oc:Value}{an od:Option Addr}
  {osl:Array (Option Value)} {N ps:List Str} {sp:Sp} (lk:K.lookup f=some ⟨oc,od,.func (PySem.W.fnOf name qual params body scope dV kV doc pm an cdv ct),osl⟩) (hcd:PySem.W.codeIn K cdv qual=true) (S:C2 N ps scope)
  (len:∀vs H Q E,sp vs H Q E->vs.length=ps.length)
  (hbody:∀(A:Around) (outer:List Env) (s:Shared) (H:Hp) (vs:List V) (Q:VK) (E:XK),Room k (A.deeper (envOfC qual scope s.heap.objs.size f cdv))->sp vs H Q E ->
   ∃t,PSs (v6 CX P w K mg base N qual scope f cdv A outer s H E) body t/\t {nx:=λ_ H'=>Q .non H',rt:=Q} (G3 N vs) H) :
  D6 P w K mg base CX (k+1) f (PySem.W.fnOf name qual params body scope dV kV doc pm an cdv ct) ps sp:=by
 refine⟨len,λA outer s H args us vs Q E hr e0 hb r hsp=>?_⟩
 have hl:=len _ _ _ _ hsp
 have KX:K.In s.heap:=e0.mod.kin.keeps λb o e=>(e0.bs b o e).1
 have lim:s.heap.NoLimit:=e0.mod.nolimit.keeps λb o e=>(e0.bs b o e).1
 have hkind:∀y∈ps.zip us,scope.names.lookup y.1=some .local\/(scope.names.lookup y.1=some .cell/\((cellsFrom (s.heap.objs.size+1) scope.names []).lookup y.1).isSome=true):=λ⟨n,v⟩ hy=>by
  rcases S.par n (List.of_mem_zip hy).1 with q | q
  ·exact .inl q
  ·exact .inr ⟨q,PySem.W.cellsFrom_some _ _ _ (.inl q)⟩
 refine codeAny_call_function hr.depth (KX _ _ lk) rfl S.co S.gen rfl (PySem.W.codeRec_of KX hcd) (hb _ _ _ _ ?_);refine wpAny_newFunctionEnv_cells S.kind hkind λenv he s1 x=>?_
 subst he;refine⟨lim.keeps x.toInCall.keep,codeAny_func ?_⟩;obtain ⟨t,ht,hq⟩:=hbody A outer s H vs Q E (hr.deeper _) hsp;have I:Inv (v6 CX P w K mg base N qual scope f cdv A outer s H E) [] (G3 N vs) H s1:=aE9 S hr.hd e0 hl r x;refine wpAny_mono (ht [] s1 (G3 N vs) H _ I hq) (λfl s' hs=>?_) λe s' hs=>hs
 have fin:∀{σ':St} {H':Hp} {v:V} {u:Value},Inv (v6 CX P w K mg base N qual scope f cdv A outer s H E) [] σ' H' s'->RelV v u->Q v H'->CE outer P w H s Q u s':=
  λ{σ' H' v u} J rv q=>⟨v,H',J.os,J.bare,J.base,J.hok,rv,q⟩
 cases fl with
 | ret u=>
  obtain ⟨v,σ',H',J,rv,q⟩:=hs;exact fin J rv q
 | next=>
  obtain ⟨σ',H',J,q⟩:=hs;exact fin (v:=V.non) (u:=Value.none) J rfl q
 | brk=>
  obtain ⟨_,_,_,q⟩:=hs;exact False.elim q
 | cont=>
  obtain ⟨_,_,_,q⟩:=hs;exact False.elim q
section
variable {X:Cx}{x:Str}{p pos:Pos}{e:Expr}{es:List Expr}{t:TA}{id T:String}{r:List V->Hp->VK->Prop}
def tCB (r:List V->Hp->VK->Prop)(t:TA):TE:=λσ H Q=>t σ H λvs H1=>r vs H1 Q
theorem C1 (hc:X5 X (.builtin id) r)(hg:Gl X x)(hm:X.mg x=none)(hv:bootBuiltins x=some (.builtin id))(ha:PA X (e::es) t)(hn:x≠"__name__" := by decide)(hdb:(x==("__debug__" : Str))=false:=by decide)
  (he:starEach (e::es) X.env=(false,eval e X.env)::starEach es X.env:=by rfl) (hpl:(backTo pos (starEach es X.env)).any (·.1)=false:=by rfl):PE X (.Call (.Name x p) (e::es) [] pos) (tCB r t):=by
 refine⟨?_⟩;intro pins s σ H Q I h;refine wpAny_Call_Name_kw (j4 I hg hm hv ?_ hn hdb);exact PyProof.Rows.callWith_builtin1 (thn (ha pos pins s σ H _ I h) λus s1 ⟨vs,H1,I1,r1,q1⟩=>hc pins s1 σ H1 vs us Q I1 r1 q1) he hpl
theorem aF5 (hc:X5 X (.type T) r)(hg:Gl X x)(hm:X.mg x=none)(hv:bootBuiltins x=some (.type T))(ha:PA X (e::es) t)(hn:x≠"__name__" := by decide)(hdb:(x==("__debug__" : Str))=false:=by decide)
  (he:starEach (e::es) X.env=(false,eval e X.env)::starEach es X.env:=by rfl) (hpl:(backTo pos (starEach es X.env)).any (·.1)=false:=by rfl):PE X (.Call (.Name x p) (e::es) [] pos) (tCB r t):=by
 refine⟨?_⟩;intro pins s σ H Q I h;refine wpAny_Call_Name_kw (j4 I hg hm hv ?_ hn hdb);exact PyProof.Rows.callWith_type1 (thn (ha pos pins s σ H _ I h) λus s1 ⟨vs,H1,I1,r1,q1⟩=>hc pins s1 σ H1 vs us Q I1 r1 q1) he hpl
end
end L2
namespace HT
open PySem PyProof.Rows
section
open PySem.SeqAt
open PySem.AutoSeq1 (wpAny_loadPart')
open PySem.MeetsSeq PySem.MeetsSeq2 PySem.MeetsSeq3
end
end HT
namespace L2
open PySem PySem.Spec PyProof.Rows
abbrev TO:=St->Hp->(Option Int->Hp->Prop)->Prop
structure PO (X:Cx)(e:Option Expr)(t:TO):Prop where
 mk ::
 run :
  ∀(pins:List (Addr×Obj)) (s:Shared) (σ:St) (H:Hp) (Q:Option Int->Hp->Prop),Inv X pins σ H s->t σ H Q ->
   wpAny (model X.prog X.w) X.A (evalPart e X.env) (λu s'=>∃o H',Inv X pins σ H' s'/\IsPart u o/\Q o H') X.xe s
instance {X:Cx} {e:Option Expr} {t:TO}:CoeFun (PO X e t) λ_=>
 (∀(pins:List (Addr×Obj)) (s:Shared) (σ:St) (H:Hp) (Q:Option Int->Hp->Prop),Inv X pins σ H s->t σ H Q ->
  wpAny (model X.prog X.w) X.A (evalPart e X.env) (λu s'=>∃o H',Inv X pins σ H' s'/\IsPart u o/\Q o H') X.xe s):=⟨PO.run⟩
def m7:TO:=λ_ H Q=>Q none H
def bD0 (t:TE):TO:=λσ H Q=>t σ H λx H1=>∃i,x=.int i/\Q (some i) H1
section
variable {X:Cx}{e:Expr}{te:TE}{lo hi:Option Expr}{tl th:TO}{pos p2:Pos}
theorem aU3:PO X none m7:=by
 refine⟨?_⟩;intro pins s σ H Q I h;rw[evalPart_none];exact wpAny_pure ⟨none,H,I,.none,h⟩
theorem aV5 (h:PE X e te):PO X (some e) (bD0 te):=by
 refine⟨?_⟩;intro pins s σ H Q I hw;rw[evalPart_some];refine thn (h pins s σ H _ I hw) λu s1 ⟨x,H1,I1,r1,q1⟩=>?_
 obtain ⟨i,rfl,q⟩:=q1;obtain ⟨t,rfl⟩:=r1;exact⟨some i,H1,I1,.int i t,q⟩
def SlR (X:Cx)(r:V->Option Int->Option Int->Hp->VK->Prop):Prop:=
 ∀(pins:List (Addr×Obj)) (s:Shared) (σ:St) (H:Hp) (x:V) (v vl vu:Value) (lo hi:Option Int) (sl:Addr) (Q:VK),Inv X pins σ H s->RelV x v->s.heap.IsSliceOf sl vl vu .none->IsPart vl lo->IsPart vu hi->r x lo hi H Q ->
  ∃T id,typeLookup (.type T) "__getitem__" = pure (some (.builtin id))/\s.TypeIs v T/\wpAny (model X.prog X.w) X.A (getItem v (.ref sl)) (EP X pins σ Q) X.xe s
def tSl (r:V->Option Int->Option Int->Hp->VK->Prop)(te:TE)(tl th:TO):TE:=λσ H Q=>te σ H λx H1=>tl σ H1 λl H2=>th σ H2 λu H3=>r x l u H3 Q
theorem aM5 {r:V->Option Int->Option Int->Hp->VK->Prop}(hr:SlR X r)(he:PE X e te)(hl:PO X lo tl)(hu:PO X hi th):PE X (.Subscript e (.Slice lo hi none p2) pos) (tSl r te tl th):=by
 refine⟨?_⟩;intro pins s σ H Q I h;refine Subscript_ (thn (he pins s σ H _ I h) λv s1 ⟨x,H1,I1,r1,q1⟩=>?_)
 refine wpAny_Slice (thn (hl pins s1 σ H1 _ I1 q1) λvl s2 ⟨l,H2,I2,pl,q2⟩=>thn (hu pins s2 σ H2 _ I2 q2) λvu s3 ⟨u,H3,I3,pu,q3⟩=>?_)
 rw[evalPart_none];refine wpAny_pure ?_;have I4:Inv X pins σ H3 {s3 with heap:=s3.heap.push {cls:=.type "slice",data:=.fields #[vl,vu,.none]}}:=I3.kept (t':=s3.toks) λb ob q=>Aa5 _ q
 obtain ⟨T,id,hT,ht,hg⟩:=hr pins {s3 with heap:=s3.heap.push {cls:=.type "slice",data:=.fields #[vl,vu,.none]}} σ H3 x v vl vu l u s3.heap.objs.size Q I4 r1 (Heap.IsSliceOf.new ..) pl pu q3
 show wpAny (model X.prog X.w) X.A (subscriptTail e (.Slice lo hi none p2) v (.ref s3.heap.objs.size)) (EP X pins σ Q) X.xe {s3 with heap:=s3.heap.push {cls:=.type "slice",data:=.fields #[vl,vu,.none]}}
 exact tail_any (ops:=[.ref s3.heap.objs.size,v]) ht hT hg (by with_unfolding_all rfl)
end
def ixN (n:Nat)(i:Int):Option Nat:=if 0<=i then(if i<n then some i.toNat else none) else if -(n:Int)<=i then some (i+n).toNat else none
def atI {α:Type}(xs:List α)(i:Int):Option α:=(ixN xs.length i).bind λj=>xs[j]?
theorem aT2 {n:Nat}{i:Int}{j:Nat}(h:ixN n i=some j):seqIndex? i n=some j/\j<n /\ -(n:Int)<=i/\i<n:=by
 unfold ixN at h;by_cases h0:0<=i
 ·rw[if_pos h0]at h;by_cases h1:i<n
  ·rw[if_pos h1]at h;have e:i.toNat=j:=Ab3 h;exact⟨by rw[seqIndex_of h0 h1,e],by omega,by omega,h1⟩
  ·rw[if_neg h1]at h;cases h
 ·rw[if_neg h0]at h;by_cases h1 : -(n:Int)<=i
  ·rw[if_pos h1]at h;have e:(i+n).toNat=j:=Ab3 h;exact⟨by rw[seqIndex_neg (by omega) h1,e],by omega,h1,by omega⟩
  ·rw[if_neg h1]at h;cases h
theorem aH4 {α:Type}{xs:List α}{i:Int}{v:α}(h:atI xs i=some v):∃j,seqIndex? i xs.length=some j/\xs[j]? = some v/\j<xs.length /\ -(xs.length:Int)<=i/\i<xs.length:=by
 unfold atI at h;cases e:ixN xs.length i with
 | none=>rw[e]at h;cases h
 | some j=>
  rw[e]at h;obtain ⟨h1,h2,h3,h4⟩:=aT2 e;exact⟨j,h1,h,h2,h3,h4⟩
def bM1 (b:Expr):Prop:=∀o i,subscripted b false o i=operate [o,i] (getItem o i)
def IxR (X:Cx)(r:R2):Prop:=
 ∀(value slice:Expr) (pins:List (Addr×Obj)) (s:Shared) (σ:St) (H:Hp) (x y:V) (v u:Value) (Q:VK),Inv X pins σ H s->RelV x v->RelV y u->r x y H Q ->
  subscripted slice false v u=operate [v,u] (getItem v u)->wpAny (model X.prog X.w) X.A (subscriptTail value slice v u) (EP X pins σ Q) X.xe s
def MtR (X:Cx)(id:String)(r:V->List V->Hp->VK->Prop):Prop:=
 ∀(pins:List (Addr×Obj)) (s:Shared) (σ:St) (H:Hp) (x:V) (xs:List V) (v:Value) (us:List Value) (Q:VK),Inv X pins σ H s->RelV x v->Vals xs us->r x xs H Q ->
  wpAny (model X.prog X.w) X.A (call (.builtin id) (v::us)) (EP X pins σ Q) X.xe s
section
variable {X:Cx}{a b:Expr}{ta tb:TE}{pos:Pos}
theorem IxR.or {r r':R2}(h:IxR X r)(h':IxR X r'):IxR X (λx y H Q=>r x y H Q\/r' x y H Q):=by
 intro value slice pins s σ H x y v u Q I rx ry q hs;rcases q with q | q
 ·exact h value slice pins s σ H x y v u Q I rx ry q hs
 ·exact h' value slice pins s σ H x y v u Q I rx ry q hs
theorem G0 {r:R2}(hr:IxR X r)(ha:PE X a ta)(hb:PE X b tb)(hs:bM1 b):PE X (.Subscript a b pos) (tOp r ta tb):=by
 refine⟨?_⟩;intro pins s σ H Q I h;exact Subscript_ (bV2 ha hb I h λv u s2 x y H2 I2 rx ry q=>hr a b pins s2 σ H2 x y v u Q I2 rx ry q (hs _ _))
def cA4 (K:PySem.W.Frag):R2:=λx y H Q=>∃p xs i v,x=.ref p/\y=.int i/\SqL K H p xs/\atI xs i=some v/\Q v H
def bX8 (K:PySem.W.Frag):R2:=λx y H Q=>∃p xs i v,x=.ref p/\y=.int i/\SqT K H p xs/\atI xs i=some v/\Q v H
def cC2:R2:=λx y H Q=>∃z i c,x=.str z/\y=.int i/\z.length<=sizeLine/\atI z.cps.toList i=some c/\Q (.str ⟨#[c]⟩) H
theorem ix_list:IxR X (cA4 X.K):=by
 intro value slice pins s σ H x y v u Q I rx ry h hs;obtain ⟨p,xs,i,z,rfl,rfl,hq,he,q⟩:=h;cases rx;obtain ⟨t,rfl⟩:=ry;obtain ⟨its,r,pl,hz⟩:=I.list hq;obtain ⟨j,h1,h2,h3,h4,h5⟩:=aH4 he;obtain ⟨w,ew,rw'⟩:=r.get h2;have hl:=r.length;have hn:=r0;have fin:EP X pins σ Q w s:=⟨z,H,I,rw',q⟩;by_cases h0:0<=i
 ·have hj:i.toNat=j:=by
   rw[seqIndex_of h0 h5]at h1;exact Ab3 h1
  exact item_listR pl.isList h0 (by omega) (by rw[hj];simpa using ew) fin hs
 ·have hj:(i+(its.toArray.size:Int)).toNat=j:=by
   rw[seqIndex_neg (by omega) h4]at h1
   rw[Ab1,<- hl];exact Ab3 h1
  exact subscriptTail_builtinR (x:=w) pl.isList.typeIs slot_list_getitem.lookup
   (wpAny_getItem_list_neg (Q:=λr s'=>r=w/\EP X pins σ Q r s') pl.isList (by omega) (by rw[Ab1] <;> omega) (by omega) (by rw[hj];simpa using ew) ⟨rfl,fin⟩) hs
theorem ix_tup:IxR X (bX8 X.K):=by
 intro value slice pins s σ H x y v u Q I rx ry h hs;obtain ⟨p,xs,i,z,rfl,rfl,hq,he,q⟩:=h;cases rx;obtain ⟨t,rfl⟩:=ry;obtain ⟨its,r,pl,hz⟩:=I.tuple hq;obtain ⟨j,h1,h2,h3,h4,h5⟩:=aH4 he;obtain ⟨w,ew,rw'⟩:=r.get h2;have hl:=r.length;have hn:=r0;have fin:EP X pins σ Q w s:=⟨z,H,I,rw',q⟩;exact subscriptTail_builtinR (x:=w) pl.typeIs slot_tuple_getitem.lookup
  (getItem_tuple (j:=j) (Q:=λr s'=>r=w/\EP X pins σ Q r s') pl (by omega) (by omega) (by rw[Ab1,<- hl];exact h1) (by simpa using ew) ⟨rfl,fin⟩) hs
theorem bS7:IxR X cC2:=by
 intro value slice pins s σ H x y v u Q I rx ry h hs;obtain ⟨z,i,c,rfl,rfl,hz,he,q⟩:=h;obtain ⟨t,rfl⟩:=rx;obtain ⟨t',rfl⟩:=ry;obtain ⟨j,h1,h2,h3,h4,h5⟩:=aH4 he;have hl:z.cps.toList.length=z.length:=by simp[Str.length]
 rw[hl]at h1 h4 h5;have hn:=r0;exact tail_any (typeIs_str s z t) slot_str_getitem.lookup (getItem_str (c:=c) (by
  have e1:decide (i < -(2^63:Int))=false:=decide_eq_false (by omega)
  have e2:decide (i≥2^63)=false:=decide_eq_false (by omega)
  rw[e1,e2,Bool.or_false]) (by rw[h1];simpa using h2) ⟨.str ⟨#[c]⟩,H,I.tok _,⟨_,rfl⟩,q⟩) hs
def rIx (K:PySem.W.Frag):R2:=λx y H Q=>cA4 K x y H Q\/bX8 K x y H Q\/cC2 x y H Q
theorem bC9:IxR X (rIx X.K):=ix_list.or (ix_tup.or bS7)
theorem aP8 (its:List Value)(n j:Nat)(u:Value):Obj.mapSeq (·.setIfInBounds j u) {cls:=.type "list",data:=.seq its.toArray n}={cls:=.type "list",data:=.seq (its.set j u).toArray n}:=by
 simp[Obj.mapSeq]
theorem Inv.lst {pins:List (Addr×Obj)}{σ:St}{H:Hp}{s:Shared}{p:Addr}{xs:List V}(I:Inv X pins σ H s)(h:H p=some (.lst xs)) :
  ∃(its:List Value) (n:Nat),Vals xs its/\s.heap.get? p=some {cls:=.type "list",data:=.seq its.toArray n}/\xs.length<=sizeLine:=by
 obtain ⟨z,its,n,r,e⟩:=I.hok p _ h;exact⟨its,n,r,e,z⟩
theorem Inv.lstUpd {pins:List (Addr×Obj)}{σ:St}{H:Hp}{s:Shared}{p:Addr}{xs ys:List V}{its its':List Value}{n n':Nat}{f:Obj->Obj}(I:Inv X pins σ H s)(h:H p=some (.lst xs))
  (ho:s.heap.get? p=some {cls:=.type "list",data:=.seq its.toArray n}) (hf:f {cls:=.type "list",data:=.seq its.toArray n}={cls:=.type "list",data:=.seq its'.toArray n'}) (r:Vals ys its') (hz:ys.length<=sizeLine) (t:Nat) :
  Inv X pins σ (upd H p (.lst ys)) {s with heap:=s.heap.update p f,toks:=t}:=by
 have e:(s.heap.update p f).get? p=some {cls:=.type "list",data:=.seq its'.toArray n'}:=by
  rw[Heap.get?_update_self f ho (by rw[hf] <;> rfl),hf]
 refine I.write (x:=p) (e:=p) (by rw[h];trivial) (.inl rfl) (λb u hb q=>(Heap.get?_update_other _ _ (Ne.symm hb)).trans q) ⟨_,e⟩ ?_
 exact⟨hz,its',n',r,e⟩
def bR3:V->V->V->Hp->(Hp->Prop)->Prop:=λo i v H Q=>∃p xs k j,o=.ref p/\i=.int k/\H p=some (.lst xs)/\ixN xs.length k=some j/\Q (upd H p (.lst (xs.set j v)))
theorem bD1:cA6 X bR3:=by
 intro pins s σ H o i v ov iv u Q I ro ri rv h;obtain ⟨p,xs,k,j,rfl,rfl,hp,hj,q⟩:=h;cases ro;obtain ⟨t,rfl⟩:=ri;obtain ⟨its,n,r,ho,hz⟩:=I.lst hp;obtain ⟨h1,h2,h3,h4⟩:=aT2 hj;have hl:=r.length;have hn:=r0;have I':Inv X pins σ (upd H p (.lst (xs.set j v))) {s with heap:=s.heap.update p (Obj.mapSeq (·.setIfInBounds j u))}:=
  I.lstUpd hp ho (aP8 its n j u) (r.set rv j) (by rw[List.length_set];exact hz) s.toks
 by_cases h0:0<=k
 ·have hk:k.toNat=j:=by
   rw[seqIndex_of h0 h4]at h1;exact Ab3 h1
  exact PySem.W.ki_setAt ho h0 (by omega) (by rw[Ab1,<- hl];exact h4) (by rw[hk];exact⟨_,I',q⟩)
 ·have hk:(k+(its.toArray.size:Int)).toNat=j:=by
   rw[seqIndex_neg (by omega) h3]at h1
   rw[Ab1,<- hl];exact Ab3 h1
  exact PySem.W.ki_setBack ho (by omega) (by rw[Ab1,<- hl];exact h3) (by omega) (by rw[hk];exact⟨_,I',q⟩)
theorem m3:X5 X (.builtin "len") (λxs H Q=>∃p ys,xs=[.ref p]/\(SqL X.K H p ys\/SqT X.K H p ys)/\Q (.int ys.length) H):=by
 intro pins s σ H xs us Q I r h;obtain ⟨p,ys,rfl,hq,q⟩:=h;obtain ⟨u,rfl,rx⟩:=u5 r;cases rx;have hn:=r0;rcases hq with hq | hq
 ·obtain ⟨its,r',pl,hz⟩:=I.list hq;have hlen:=r'.length;exact Calls.call_len_list pl.isList (by simp only[Ab1] <;> omega) ⟨.int ys.length,H,I.tok _,⟨s.toks+1,by rw[Ab1,hlen]⟩,q⟩
 ·obtain ⟨its,r',pl,hz⟩:=I.tuple hq;have hlen:=r'.length;exact len_tuple pl (by simp only[Ab1] <;> omega) ⟨.int ys.length,H,I.tok _,⟨s.toks+1,by rw[Ab1,hlen]⟩,q⟩
theorem aH9:X5 X (.builtin "len") (λxs H Q=>∃z,xs=[.str z]/\z.length<=sizeLine/\Q (.int z.length) H):=by
 intro pins s σ H xs us Q I r h;obtain ⟨z,rfl,hz,q⟩:=h;obtain ⟨u,rfl,t,rfl⟩:=u5 r;have hn:=r0;exact len_str (by omega) ⟨.int z.length,H,I.tok _,⟨_,rfl⟩,q⟩
def tyV (K:PySem.W.Frag)(T:String)(x:V)(H:Hp):Prop:=match x with
 | .str _=>T = "str"
 | .int _=>T = "int"
 | .ref p=>(T = "list" /\ ∃xs,SqL K H p xs)\/(T = "tuple" /\ ∃xs,SqT K H p xs) \/
   (T = "dict" /\ ((∃kvs,H p=some (.dK kvs))\/∃kvs,H p=some (.dT kvs)))\/(T = "set" /\ ∃S n,H p=some (.set S n))
 | _=>False
theorem bS8 {pins:List (Addr×Obj)}{σ:St}{H:Hp}{s:Shared}{T:String}{x:V}{v:Value}(I:Inv X pins σ H s)(r:RelV x v)(ty:tyV X.K T x H) :
  s.TypeIs v T/\∀a,v=.ref a->∃ob,s.heap.get? a=some ob/\ob.dict=none:=by
 cases x with
 | str z=>
  obtain ⟨t,rfl⟩:=r;cases (show T = "str" from ty)
  exact⟨typeIs_str s z t,λ_ e=>nomatch e⟩
 | int i=>
  obtain ⟨t,rfl⟩:=r;cases (show T = "int" from ty)
  exact⟨typeIs_int s i t,λ_ e=>nomatch e⟩
 | ref p=>
  cases r
  rcases ty with ⟨rfl,xs,hq⟩ | ⟨rfl,xs,hq⟩ | ⟨rfl,hk⟩ | ⟨rfl,S,n,hk⟩
  ·obtain ⟨its,_,pl,_⟩:=I.list hq;refine⟨pl.isList.typeIs,λa e=>?_⟩
   cases e
   obtain ⟨o,n,e,c,hd,_⟩:=pl;exact⟨o,e,hd⟩
  ·obtain ⟨its,_,p0,_⟩:=I.tuple0 hq;obtain ⟨o,h1,h2,_,h3⟩:=p0;refine⟨⟨o,h1,h2⟩,λa e=>?_⟩
   cases e
   exact⟨o,h1,h3⟩
  ·have z:∃o,s.heap.get? p=some o/\o.ExactDict:=by
    rcases hk with ⟨kvs,hk⟩ | ⟨kvs,hk⟩
    ·obtain ⟨_,_,_,_,o,_,_,e,ex,_⟩:=I.hok p _ hk;exact⟨o,e,ex⟩
    ·obtain ⟨_,_,_,_,o,_,_,e,ex,_⟩:=I.hok p _ hk;exact⟨o,e,ex⟩
   obtain ⟨o,e,ex⟩:=z;refine⟨⟨o,e,ex.1⟩,λa e2=>?_⟩
   cases e2
   exact⟨o,e,ex.2.1⟩
  ·obtain ⟨o,_,_,_,e,ex,_⟩:=I.hok p _ hk;refine⟨⟨o,e,ex.1⟩,λa e2=>?_⟩
   cases e2
   exact⟨o,e,ex.2.1⟩
 | _=>exact False.elim ty
def tBM (K:PySem.W.Frag)(T:String)(r:V->List V->Hp->VK->Prop)(to:TE)(t:TA):TE:=λσ H Q=>to σ H λx H1=>tyV K T x H1/\t σ H1 λxs H2=>r x xs H2 Q
variable {o e:Expr}{es:List Expr}{to:TE}{t:TA}{name:Str}{apos cpos:Pos}{T id:String}{r:V->List V->Hp->VK->Prop}
theorem X2 (pa:PlainAttrs T)(slot:Slot T name id)(hty:typeOf (.builtin id)=pure (.type "method_descriptor"))(hm:MtR X id r)(ho:PE X o to)(ha:PA X (e::es) t)
  (hbase:attributeBase o name X.env (eval o X.env)=eval o X.env:=by rfl)
  (hfew:((backTo cpos (starEach (e::es) X.env)).all (λx => !x.1)&&(backToKw cpos (keywordEach [] X.env)).all (λx=>x.1.isSome)
   && decide ((e::es).length+([]:List Keyword).length+(if([]:List Keyword).isEmpty then 0 else 1)<30))=true:=by rfl)
  (hline:(apos.endLine==cpos.line)=true:=by rfl) (hs:starEach (e::es) X.env=(false,eval e X.env)::starEach es X.env:=by rfl) (hplain:(backTo cpos (starEach es X.env)).any (·.1)=false:=by rfl) :
  PE X (.Call (.Attribute o name apos) (e::es) [] cpos) (tBM X.K T r to t):=by
 refine⟨?_⟩;intro pins s σ H Q I h;refine wpAny_Call_method_late hbase hfew hline rfl (thn (ho pins s σ H _ I h) λv s1 ⟨x,H1,I1,r1,ty,q1⟩=>?_)
 obtain ⟨h1,h2⟩:=bS8 I1 r1 ty;refine⟨T,id,pa,slot,hty,h1,h2,?_⟩;have hA:=ha cpos pins s1 σ H1 _ I1 q1;rw[hs]at hA ⊢;refine Calls.callWith_builtin (by show(false||(backTo cpos (starEach es X.env)).any (·.1))=false;rw[hplain] <;> rfl) (Calls.evalArgs_plain ?_)
 exact thn hA λus s2 ⟨vs,H2,I2,r2,q2⟩=>hm pins s2 σ H2 x vs v us Q I2 r1 r2 q2
end
def MtM (X:Cx)(id:String)(r:V->List V->Hp->VK->Prop):Prop:=
 ∀(pins:List (Addr×Obj)) (s:Shared) (σ:St) (H:Hp) (x:V) (xs:List V) (v:Value) (us:List Value) (Q:VK),Inv X pins σ H s->RelV x v->Vals xs us->r x xs H Q ->
  wpAny (model X.prog X.w) X.A (call (.builtin id) (v::us)) (EP X pins σ Q) X.xe s
theorem Vals.one:∀{x:V} {us:List Value},Vals [x] us->∃u,us=[u]/\RelV x u
 | _,_,.cons r .nil=>⟨_,rfl,r⟩
section
variable {X:Cx}{pins:List (Addr×Obj)}{σ:St}{H:Hp}{s:Shared}{l b:Addr}{xs ys zs:List V}
theorem Inv.lset {its its':List Value}{n:Nat}{f:Array Value->Array Value}{t':Nat}(I:Inv X pins σ H s)(hH:H l=some (.lst xs))
  (e:s.heap.get? l=some {cls:=.type "list",data:=.seq its.toArray n}) (hf:f its.toArray=its'.toArray) (hv:Vals ys its') (hz:ys.length<=sizeLine) :
  Inv X pins σ (upd H l (.lst ys)) {s with heap:=s.heap.update l (Obj.mapSeq f),toks:=t'}:=by
 have q:=PySem.IsL.update e f
 rw[hf]at q;refine I.write (x:=l) (e:=l) (by rw[hH];exact trivial) (.inl rfl) (λb' u hb hu=>(Heap.get?_update_other s.heap (Obj.mapSeq f) (Ne.symm hb)).trans hu) ⟨_,q⟩ ?_
 exact⟨hz,its',_,hv,q⟩
theorem Inv.lnew {its:List Value}{t':Nat}(I:Inv X pins σ H s)(hv:Vals ys its)(hz:ys.length<=sizeLine) :
  Inv X pins σ (upd H s.heap.objs.size (.lst ys)) {s with heap:=s.heap.push {cls:=.type "list",data:=.seq its.toArray},toks:=t'}:=
 I.laid (λ_ _ q=>Aa5 _ q) (Aa6 _) ⟨hz,its,0,hv,Ac1 _ rfl⟩
theorem Inv.fresh (I:Inv X pins σ H s):H s.heap.objs.size=none:=I.hok.fresh (Aa6 _)
theorem Inv.lstM (I:Inv X pins σ H s)(hH:H l=some (.lst xs)):xs.length<=sizeLine/\∃(its:List Value) (n:Nat),Vals xs its/\xs.length=its.length/\s.heap.get? l=some {cls:=.type "list",data:=.seq its.toArray n}:=by
 obtain ⟨z,its,n,r,e⟩:=I.hok l _ hH;exact⟨z,its,n,r,r.length,e⟩
theorem bH8 {n:Nat}(h:n<=sizeLine):Builtin.List.listTooLong n=false:=by
 unfold Builtin.List.listTooLong;exact decide_eq_false (by omega)
end
section
variable {X:Cx}
def aT7:V->List V->Hp->VK->Prop:=λx vs H Q=>∃l xs y,x=.ref l/\vs=[y]/\H l=some (.lst xs)/\xs.length<sizeLine/\Q .non (upd H l (.lst (xs++[y])))
theorem N6:MtM X "list.append" aT7:=by
 intro pins s σ H x vs v us Q I rx rv h;obtain ⟨l,xs,y,rfl,rfl,hH,hz,q⟩:=h;cases rx;obtain ⟨u,rfl,ru⟩:=rv.one;obtain ⟨z,its,n,r,hl,e⟩:=I.lstM hH;refine call_meets F.slot_list_append ⟨_,e,rfl⟩ F.entry_list_append (F.args_list_append_2 _ _) (PySem.list_append l its.toArray n u (by rw[Ab1];omega)) ⟨e,?_⟩
 refine⟨.non,_,I.lset (its':=its++[u]) hH e (by simp) (r.append (.cons ru .nil)) ?_,rfl,q⟩
 rw[Ab5,List.length_singleton];omega
def aU6:V->List V->Hp->VK->Prop:=λx vs H Q=>∃l b xs zs,x=.ref l/\vs=[.ref b]/\H l=some (.lst xs)/\H b=some (.lst zs)/\xs.length+zs.length<=sizeLine/\Q .non (upd H l (.lst (xs++zs)))
theorem aY1:MtM X "list.extend" aU6:=by
 intro pins s σ H x vs v us Q I rx rv h;obtain ⟨l,b,xs,zs,rfl,rfl,hH,hB,hz,q⟩:=h;cases rx;obtain ⟨u,rfl,ru⟩:=rv.one;cases ru;obtain ⟨z,its,n,r,hl,e⟩:=I.lstM hH;obtain ⟨z2,its2,n2,r2,hl2,e2⟩:=I.lstM hB;have hsz:its.toArray.size+its2.toArray.size<=sizeLine:=by rw[Ab1,Ab1];omega
 have hlong:¬(!its.toArray.isEmpty&&Builtin.List.listTooLong (its.toArray.size+its2.toArray.size))=true:=by
  rw[bH8 hsz,Bool.and_false];exact Bool.false_ne_true
 refine call_meets F.slot_list_extend ⟨_,e,rfl⟩ F.entry_list_extend (F.args_list_extend_2 _ _)
  (AutoSeq1.list_extend_list_list_0 l its.toArray n b its2.toArray n2 hlong (by rw[Ab1];omega) (by omega)) ⟨e,e2,?_⟩
 refine⟨.non,_,I.lset (its':=its++its2) hH e (by simp) (r.append r2) ?_,rfl,q⟩
 rw[Ab5];omega
end
end L2
namespace Att
open PySem PySem.W PySem.Calls PyProof.Rows
theorem w6 {P:Params}{h:Heap}:∀(ns:List Int) (vs:List Value),WellAll P h vs (ns.map WData.int)->IntsAre vs ns:=by
 intro ns;induction ns with
 | nil=>
  intro vs w;rw[List.map_nil]at w;cases w;exact .nil
 | cons n ns ih=>
  intro vs w;rw[Ac2]at w;cases w with
  | cons a b=>
   cases a
   exact .cons _ _ (ih _ b)
theorem aX4 {l:OpenLaw}{n:Nat}(hn:l.most=some n){P:Params}{h:Heap}{args:List WData}{vals:List Value}
  (hpre:l.row.toRowW.claim.pre args=true) (hwl:WellAll P h vals args) :
  ∃a vs ns,vals=[Value.ref a]/\args=[WData.list (ns.map WData.int)]/\h.get? a=some {cls:=.type "list",data:=.seq vs.toArray}/\IntsAre vs ns/\ns.length<=n:=by
 have hsh:WShape.hasAll [] args [.list .int]=true:=(pre_splitW hpre).1
 have hc:l.pre.holds [] {args:=args}=true:=(pre_splitW hpre).2
 obtain ⟨d,r,rfl,h1,h2⟩:=hasAllW_cons hsh;obtain rfl:=hasAllW_nil h2;obtain ⟨xs,rfl,h3⟩:=hasW_list h1;obtain ⟨ns,rfl⟩:=items_int h3;have hlen:ns.length<=n:=by
  unfold OpenLaw.pre at hc;have h4:(WTm.not (.lt (.lit (.int (n:Int))) (.len (.arg 0)))).holds [] {args:=[.list (ns.map .int)]}=true:=by
   have h4:=(holds_andW hc).1
   rw[hn]at h4;exact h4
  have h5:=condW_of h4 (w_not (w_lt w_lit (w_len_list (w_arg rfl))))
  rw[Aa3]at h5;refine Nat.le_of_not_lt λq=>?_
  have q':(n:Int)<((ns.length:Nat):Int):=by omega
  first
   | (rw[decide_eq_true q']at h5;exact absurd h5 (by decide))
   | (simp at h5;omega)
 cases hwl with
 | cons w1 w2=>
  cases w2
  cases w1 with
  | list ho hall=>exact⟨_,_,ns,rfl,rfl,ho,w6 ns _ hall,hlen⟩
theorem aY5 (l:OpenLaw)(args:List WData):l.row.toRowW.claim.post args (.bool true) args=true:=
 postW_of (r:=l.row.toRowW) (X:=(true==true))
  (show WShape.has [] (.bool true) .bool=true by first | rfl | decide | simp[WShape.has,WShape.arms,WShape.armsAll])
  (show(WTm.eq .res (.lit (.bool true))).value [] {args:=args,res:=some (.bool true),after:=args}=some (.bool (true==true)) from w_eq_bool (w_res rfl) w_lit) rfl
theorem aL3 {l:OpenLaw}{n:Nat}{q:Program}{loose:List Str}{XP:(Str->Option Value)->Heap->Prop}{YP:World->Heap->Prop}{d:DefRec}
  (hn:l.most=some n) (hdf:d.params.defaults=[])
  (call:∀(w:World) (s₀ s₁:Shared) (mg mb:Str->Option Value) (fa:Addr) (o:Obj) (pm cd doc:Value) (a:Addr) (vs:List Value) (ns:List Int),
   Ground q loose [] XP w s₀ mg mb s₁.heap->YP w s₁.heap ->
   s₁.heap.get? fa=some o->o.data=.func (docDef d.name d.params d.body d.scope pm cd doc)->s₁.heap.CodeRec cd d.name->mg d.name=some (.ref fa) ->
   s₁.heap.get? a=some {cls:=.type "list",data:=.seq vs.toArray}->IntsAre vs ns->ns.length<=n->s₁.gens = #[] ->
   codeAny (model l.prog w) callerA (.call (.ref fa) ⟨[.ref a],[]⟩) (λr s'=>r=.ok (.ret (.bool true))/\OldK s₁.heap s'.heap/\s'.os=s₁.os/\AllBare s'.gens) s₁) :
  WalkO q loose XP YP l.row.toRowW d [] (λf vs=>PySem.call f vs):=by
 intro w s₀ s₁ mg mb G Y fa o pm cd doc dV kV ho hd hcd hD hmg hg args vals as hpre hlay hrd hwl hlo;obtain rfl:dV=.none:=Dflts.none hD hdf;obtain rfl:kV=.none:=Dflts.noKw hD;obtain ⟨a,vs,ns,rfl,rfl,hobj,hints,hlen⟩:=aX4 hn hpre hwl;refine enter_call (codeAny_mono (call w s₀ s₁ mg mb fa o pm cd doc a vs ns G Y ho (fd_plain hd) hcd hmg hobj hints hlen hg) λr s' hq=>?_)
 obtain ⟨rfl,h2,h3,h4⟩:=hq;exact⟨.inl ⟨.bool true,.bool true,[],rfl,λ_=>rfl,.bool true,aY5 l _,λ_=>⟨List.Pairwise.nil,λ_ hm=>(nomatch hm)⟩⟩,h2,h3,h4⟩
end Att
namespace L2
open PySem PySem.Spec PyProof.Rows
theorem aD7:∀{vs:List Value} {ns:List Int},IntsAre vs ns->Vals (ns.map V.int) vs
 | _,_,.nil=>.nil
 | _,_,.cons n t h=>.cons ⟨t,rfl⟩ (aD7 h)
def bX7 (H:Hp):Prop:=∀b,H b=none\/∃o xs,H b=some (.frz o (.lst xs))
theorem bB5 {P:Program}{w:World}{K:PySem.W.Frag}{mg mb:Str->Option Value}{CX:CXT}{k:Nat}{fa a:Addr}{fd:FuncData}{x:Str}{sp:Sp}{s₁:Shared}{vs:List Value}{ns:List Int}
  (KX:K.In s₁.heap) (hns:s₁.heap.Ns mainGlobals mg) (hb:s₁.heap.Ns builtinsNs mb) (hbb:∀x:Str,x≠"__name__" -> mb x=bootBuiltins x) (hlim:s₁.heap.NoLimit) (hg:s₁.gens = #[])
  (ha:s₁.heap.get? a=some {cls:=.type "list",data:=.seq vs.toArray}) (hi:IntsAre vs ns) (hl:ns.length<=sizeLine) (hr:Room k callerA)
  (F:∀base:Heap,K.In base->base.Ns mainGlobals mg->D6 P w K mg base CX k fa fd [x] sp) (hbind:∀(s:Shared) (u:Value),BindsTo s fd ⟨[u],[]⟩ [(x,u)])
  (hsp:∀H:Hp,bX7 H->SqL K H a (ns.map V.int)->sp [.ref a] H (λv _=>v=.bl true) λ_ _ _=>False)
  (hCX:∀H e s',CX [] H s₁ (λ_ _ _=>False) e s'->False) :
  codeAny (model P w) callerA (.call (.ref fa) ⟨[.ref a],[]⟩) (λr s'=>r=.ok (.ret (.bool true))/\OldK s₁.heap s'.heap/\s'.os=s₁.os/\AllBare s'.gens) s₁:=by
 have rv:=aD7 hi
 have aA5:=hi.length
 have core:∀H:Hp,bX7 H->SqL K H a (ns.map V.int)->HOk P w H s₁.heap->(∀b,H b≠none->b=a)->(H a≠none->K.lookup a=none) ->
   codeAny (model P w) callerA (.call (.ref fa) ⟨[.ref a],[]⟩) (λr s'=>r=.ok (.ret (.bool true))/\OldK s₁.heap s'.heap/\s'.os=s₁.os/\AllBare s'.gens) s₁:=by
  intro H hO hS hok hA hK;have base_of:∀{b:Addr} {o:Obj},s₁.heap.get? b=some o->H b=none->(aI5 s₁.heap H).get? b=some o:=λe n=>bF5 e n
  have noA:∀{b:Addr} {o:Obj} {es:Array DictEntry} {ep:Nat},s₁.heap.get? b=some o->o.data=.dict es ep->H b=none:=λ{b o es ep} e d=>by
   cases q:H b with
   | none=>rfl
   | some u=>
    have e':b=a:=hA b (by rw[q];simp)
    subst e';rw[ha]at e;cases e;have d':Data.seq vs.toArray _=Data.dict es ep:=d;cases d'
  have nsK:∀{b:Addr} {m:Str->Option Value},s₁.heap.Ns b m->(aI5 s₁.heap H).Ns b m:=λ{b m} ⟨o,es,ep,e,d,r⟩=>⟨o,es,ep,base_of e (noA e d),d,r⟩
  have hKb:K.In (aI5 s₁.heap H):=λb o e=>base_of (KX b o e) (by
   cases q:H b with
   | none=>rfl
   | some u=>
    have e':b=a:=hA b (by rw[q];simp)
    subst e';rw[hK (by rw[q];simp)]at e;cases e)
  have hM:Mod K mg (aI5 s₁.heap H):=⟨hKb,nsK hns,⟨mb,nsK hb,hbb⟩,let ⟨mc,h1,h2⟩:=hlim;⟨mc,nsK h1,h2⟩⟩
  have e0:aW9 P w K mg (aI5 s₁.heap H) callerA [] s₁ H:=⟨rfl,hM,λb o e=>bJ6 e,Nat.le_of_eq (aX0 _ _),trivial,λb hb=>absurd (show b∈([]:List Addr) from hb) (by simp),hok,.of_eq hg⟩
  refine codeAny_mono ((F _ hKb (nsK hns)).run callerA [] s₁ H ⟨[.ref a],[]⟩ [.ref a] [.ref a] _ _ hr e0 (hbind s₁ (.ref a)) (.cons rfl .nil) (hsp H hO hS)) λr s' h=>?_
  cases r with
  | error e=>exact(hCX H e s' h).elim
  | ok fl=>
   cases fl with
   | next=>exact False.elim h
   | brk=>exact False.elim h
   | cont=>exact False.elim h
   | ret u=>
    obtain ⟨v,H',os,bare,un,hok',r',q⟩:=h;have q':v=.bl true:=q;subst q';obtain rfl:u=Value.bool true:=r';refine⟨rfl,OldK.of_keep λb o e=>?_,os,bare⟩
    cases q:H b with
    | none=>exact un.keep b o e q (by intro z;exact absurd (show b∈([]:List Addr) from z) (by simp)) (by simp)
    | some u=>
     rcases hO b with z | ⟨ob,xs,z⟩
     ·rw[q]at z;cases z
     ·have z2:=un.frzs b ob _ z
      obtain ⟨e1,_⟩:=hok b _ z;obtain ⟨e2,_⟩:=hok' b _ z2;rw[e]at e1;cases e1;exact e2
 cases hk:K.lookup a with
 | some o=>
  have e:=KX a o hk
  rw[ha]at e;cases e;refine core (λ_=>none) (λ_=>.inl rfl) (.inr ⟨_,vs.toArray,_,hk,rfl,rfl,rfl,by rw[Ab1,aA5];exact hl,by simpa using rv⟩) (λb u z=>by have z':(none:Option HO)=some u:=z;cases z') (λb z=>absurd rfl z) λz=>absurd rfl z
 | none=>
  refine core (λb=>if b=a then some (.frz {cls:=.type "list",data:=.seq vs.toArray} (.lst (ns.map V.int))) else none) (λb=>?_) (.inl (.inr ⟨{cls:=.type "list",data:=.seq vs.toArray},if_pos rfl⟩)) (λb u z=>?_) (λb z=>?_) λ_=>hk
  ·by_cases hb:b=a
   ·exact .inr ⟨_,_,if_pos hb⟩
   ·exact .inl (if_neg hb)
  ·by_cases hb:b=a
   ·have z':=(if_pos hb).symm.trans z
    cases z'
    subst hb;exact⟨ha,by rw[Aa3];exact hl,vs,_,rv,ha⟩
   ·have z':=(if_neg hb).symm.trans z
    cases z'
  ·by_cases hb:b=a
   ·exact hb
   ·exact absurd (if_neg hb) z
abbrev KOf {K:PySem.W.Frag}{h:Heap}(_:K.In h):PySem.W.Frag:=K
theorem bM5 {l:PySem.W.OpenLaw}{n k:Nat}{q:Program}{loose:List Str}{XP:(Str->Option Value)->Heap->Prop}{YP:World->Heap->Prop}{d:DefRec}{K:Params->PySem.W.Frag}{CX:World->CXT}{sp:World->Sp}{x:Str}
  (hn:l.most=some n) (hn2:n<=sizeLine) (hdf:d.params.defaults=[]) (hr:Room k callerA)
  (hY:∀(w:World) (h:Heap),YP w h->(K w.params).In h)
  (F:∀(w:World) (mg:Str->Option Value) (fa:Addr) (h:Heap),(K w.params).In h->h.Ns mainGlobals mg->mg d.name=some (.ref fa) ->
   ∃fd:FuncData,(∀(s:Shared) (u:Value),BindsTo s fd ⟨[u],[]⟩ [(x,u)]) /\
    ∀base:Heap,(K w.params).In base->base.Ns mainGlobals mg->D6 l.prog w (K w.params) mg base (CX w) k fa fd [x] (sp w))
  (hsp:∀(w:World) (H:Hp) (a:Addr) (ns:List Int),ns.length<=n->bX7 H->SqL (K w.params) H a (ns.map V.int)->sp w [.ref a] H (λv _=>v=.bl true) λ_ _ _=>False)
  (hCX:∀(w:World) (H:Hp) (s:Shared) (e:Value) (s':Shared),CX w [] H s (λ_ _ _=>False) e s'->False) :
  PySem.W.WalkO q loose XP YP l.row.toRowW d [] (λf vs=>PySem.call f vs):=by
 refine Att.aL3 hn hdf λw s₀ s₁ mg mb fa o pm cd doc a vs ns G Y ho hd hcd hmg hobj hints hlen hg=>?_
 have KX:=hY w _ Y
 obtain ⟨fd,hb,hF⟩:=F w mg fa _ KX G.T.g hmg;exact bB5 KX G.T.g G.T.b G.T.builtins G.T.nolimit hg hobj hints (Nat.le_trans hlen hn2) hr hF hb (λH hO hS=>hsp w H a ns hlen hO hS) λH e s'=>hCX w H s₁ e s'
def w9 (s:Stmt):Arguments:=match s with
 | .FunctionDef _ a _ _ _ _ _ _ _ _=>a
 | _=>{posonlyargs:=[],args:=[],vararg:=none,kwonlyargs:=[],kw_defaults:=[],kwarg:=none,defaults:=[]}
def U5 (s:Stmt):List Stmt:=match s with
 | .FunctionDef _ _ b _ _ _ _ _ _ _=>b
 | _=>[]
def A9 (s:Stmt):Scope:=match s with
 | .FunctionDef _ _ _ _ _ _ sc _ _ _=>sc
 | _=>{kind:=.function,names:=[],isGenerator:=false,isCoroutine:=false}
abbrev CX0:CXT:=λ_ _ _ _ _ _=>False
abbrev E0:XK:=λ_ _ _=>False
theorem G4 {X:Cx}:aB3 CX0 X E0:=λ_ _ _ _ _ _ _ h=>h.elim
structure Fun (K:PySem.W.Frag)(x qual:Str)(st:Stmt)(f:Addr)(fd:FuncData):Prop where
 ex:∃(oc:Value) (od:Option Addr) (kV doc pm:Value) (an:Option Addr) (cdv ct:Value) (osl:Array (Option Value)),
  fd=PySem.W.fnOf x qual (w9 st) (U5 st) (A9 st) .none kV doc pm an cdv ct/\K.lookup f=some ⟨oc,od,.func fd,osl⟩/\PySem.W.codeIn K cdv qual=true
 kp:PySem.W.keepIn K (.ref f)=true
section
variable {P:Program}{w:World}{K:PySem.W.Frag}{mg:Str->Option Value}{base:Heap}
theorem Fun.ok {x qual:Str}{st:Stmt}{f:Addr}{fd:FuncData}{N ps:List Str}{k:Nat}{sp:Sp}(F:Fun K x qual st f fd)(S:C2 N ps (A9 st))(len:∀vs H Q E,sp vs H Q E->vs.length=ps.length)
  (hbody:∀(cdv:Value) (A:Around) (outer:List Env) (s:Shared) (H:Hp) (vs:List V) (Q:VK) (E:XK),Room k (A.deeper (envOfC qual (A9 st) s.heap.objs.size f cdv))->sp vs H Q E ->
   ∃t,PSs (v6 CX0 P w K mg base N qual (A9 st) f cdv A outer s H E).nox (U5 st) t/\t {nx:=λ_ H'=>Q .non H',rt:=Q} (G3 N vs) H):D6 P w K mg base CX0 (k+1) f fd ps sp:=by
 obtain ⟨oc,od,kV,doc,pm,an,cdv,ct,osl,rfl,lk,hcd⟩:=F.ex;refine bO6 lk hcd S len λA outer s H vs Q E hr hsp=>?_
 obtain ⟨t,h,q⟩:=hbody cdv A outer s H vs Q E hr hsp;exact⟨t,h.nox,q⟩
theorem Fun.binds {x qual:Str}{st:Stmt}{f:Addr}{fd:FuncData}{ps:List Str}(F:Fun K x qual st f fd)
  (h:∀(kV doc pm:Value) (an:Option Addr) (cdv ct:Value) (us:List Value),us.length=ps.length->bindArgs (PySem.W.fnOf x qual (w9 st) (U5 st) (A9 st) .none kV doc pm an cdv ct) ⟨us,[]⟩=pure (ps.zip us)):Binds K fd ps []:=by
 obtain ⟨oc,od,kV,doc,pm,an,cdv,ct,osl,rfl,lk,hcd⟩:=F.ex;exact .all (h kV doc pm an cdv ct)
theorem F0 {x qual:Str}{st:Stmt}{f:Addr}{oc:Value}{od an:Option Addr}{osl:Array (Option Value)}{kV doc pm cdv ct:Value}(l:K.lookup f=some ⟨oc,od,.func (PySem.W.fnOf x qual (w9 st) (U5 st) (A9 st) .none kV doc pm an cdv ct),osl⟩)
  (c:PySem.W.codeIn K cdv qual=true) (k:PySem.W.keepIn K (.ref f)=true):Fun K x qual st f (PySem.W.fnOf x qual (w9 st) (U5 st) (A9 st) .none kV doc pm an cdv ct):=⟨⟨oc,od,kV,doc,pm,an,cdv,ct,osl,rfl,l,c⟩,k⟩
end
section
variable {X:Cx}
theorem pv (i:Nat){x:Str}{pos:Pos}(hN:X.N[i]? = some x:=by rfl)(hv:Vis X.env.scope x:=by first | exact Or.inl rfl | exact Or.inr (Or.inl rfl) | exact Or.inr (Or.inr rfl))(hd:(x==("__debug__" : Str))=false:=by decide)
  (hcd:(x==("__classdict__" : Str))=false:=by decide):PE X (.Name x pos) (K8 i):=bT4 hN hv hd hcd
end
def Same (H H':Hp):Prop:=∀b o,H b=some o->H' b=some o
section
variable {prog:Program}{w:World}{A:Around}{R:Result->Shared->Prop}{s:Shared}
theorem aN0 {elt target iter:Expr}{ifs:List Expr}{scope:Scope}{pos:Pos}{it acc:Value}{env:Env}(I:Nat->Shared->Prop)
  (turn:∀n s,I n s->wpAny (model prog w) A (pyNext it) (λr s₁=>match r with
   | none=>R (.ok .next) s₁
   | some v=>wpAny (model prog w) A (letOwnedTupleGo target it v) (λ_ s₁'=>wpAny (model prog w) A (assign target env v) (λ_ s₂ =>
     wpAny (model prog w) A (forIn ifs true λc r=>if r=true then do let ok <- isTrue c env (eval c env);pure (ForInStep.yield ok) else pure (ForInStep.yield r)) (λok s₃ =>
      if ok=true then wpAny (model prog w) A (eval elt env) (λx s₄ =>
       wpAny (model prog w) A (call (.builtin "list.append") [acc,x]) (λ_ s₅=>∃m,m<n/\I m s₅) (λ_ _=>False) s₄) (λ_ _=>False) s₃
      else ∃m,m<n/\I m s₃) (λ_ _=>False) s₂) (λ_ _=>False) s₁') (λ_ _=>False) s₁) (λ_ _=>False) s)
  (n:Nat) (h:I n s) :
  codeAny (model prog w) A (.compLoop (.ListComp elt [⟨target,iter,ifs,0⟩] scope pos) 0 it acc env) R s:=by
 refine codeAny_loop rfl I (λn s hI=>?_) n h
 show wpAny _ A ((compTurn (.ListComp elt [⟨target,iter,ifs,0⟩] scope pos) 0 it acc env).onRaise (λx=>do noteFrame x env;theTreesLotGoes x)) _ _ s
 refine wpAny_noted ?_;rw[compTurn_list];refine wpAny_bind (wpAny_standAt (wpAny_bind (wpAny_mono (turn n s hI) (λr s₁ h₁=>?_) λ_ _ h'=>h'.elim)))
 cases r with
 | none=>exact wpAny_pure h₁
 | some v=>
  refine wpAny_bind (wpAny_mono h₁ (λ_ s₁' h₁'=>?_) λ_ _ h'=>h'.elim)
  refine wpAny_bind (wpAny_mono h₁' (λ_ s₂ h₂=>wpAny_bind (wpAny_mono h₂ (λok s₃ h₃=>?_) λ_ _ h'=>h'.elim)) λ_ _ h'=>h'.elim)
  cases ok with
  | false=>exact wpAny_pure ⟨rfl,h₃⟩
  | true=>
   exact wpAny_bind (wpAny_bind (wpAny_mono h₃ (λx s₄ h₄=>wpAny_bind (wpAny_mono h₄ (λ_ s₅ h₅=>wpAny_pure (wpAny_pure ⟨rfl,h₅⟩)) λ_ _ h'=>h'.elim)) λ_ _ h'=>h'.elim))
end
section
variable {X:Cx}
def cxC (X:Cx)(N':List Str)(scope:Scope)(cl:List (Str×Addr))(C:Addr)(ex:List Addr)(s:Shared)(H:Hp):Cx:=
 {X with N:=N',s₀:=s,H₀:=H,env:=compEnvC scope cl C X.env,outer:=X.stack,ex:=ex,fn:=λ_=>false,xe:=λ_ _=>False}
structure PIfs (X:Cx)(ifs:List Expr)(t:TT):Prop where
 mk ::
 run :
  ∀(pins:List (Addr×Obj)) (s:Shared) (σ:St) (H:Hp) (Q:Bool->Hp->Prop),Inv X pins σ H s->t σ H Q ->
   wpAny (model X.prog X.w) X.A (forIn ifs true λc r=>if r=true then do let ok <- isTrue c X.env (eval c X.env);pure (ForInStep.yield ok) else pure (ForInStep.yield r)) (TP X pins σ Q) X.xe s
instance {X:Cx} {ifs:List Expr} {t:TT}:CoeFun (PIfs X ifs t) λ_=>
 (∀(pins:List (Addr×Obj)) (s:Shared) (σ:St) (H:Hp) (Q:Bool->Hp->Prop),Inv X pins σ H s->t σ H Q ->
  wpAny (model X.prog X.w) X.A (forIn ifs true λc r=>if r=true then do let ok <- isTrue c X.env (eval c X.env);pure (ForInStep.yield ok) else pure (ForInStep.yield r)) (TP X pins σ Q) X.xe s):=⟨PIfs.run⟩
theorem R4 {c:Expr}{t:TT}(hc:PT X c t):PIfs X [c] t:=⟨λpins s σ H Q I h=>by
 rw[List.forIn_cons,if_pos rfl];refine wpAny_bind (wpAny_bind (thn (hc pins s σ H Q I h) λb s1 q=>wpAny_pure ?_))
 dsimp only
 rw[List.forIn_nil];exact wpAny_pure q⟩
def stC (n:Nat)(is:List Nat)(σ:St):St:=List.replicate n none++is.map λi=>(σ[i]?).getD none
def aU7 (wi:TI)(n:Nat)(is:List Nat)(g:TG)(tt:TT)(te:TE):TE:=λσ H Q=>wi σ H λJ H1=>
 ∃W:Nat->Nat->List V->Hp->Prop,(∃m,W 0 m [] H1)/\∀i m ys H,W i m ys H->ys.length<sizeLine /\
  ((J.stop i H/\∀D,H D=none->Q (.ref D) (upd H D (.lst ys))) \/
   (J.go i H/\∀x H',J.yld i H x H'->g x (stC n is σ) H' λσ2 H2=>tt σ2 H2 λb H3=>
    if b=true then te σ2 H3 (λy H4=>∃m',m'<m/\W (i+1) m' (ys++[y]) H4) else ∃m',m'<m/\W (i+1) m' ys H3))
structure CScope (X:Cx)(scope:Scope)(cl:List (Str×Addr))(T:List Str)(is:List Nat)(N':List Str):Prop where
 clos:closureFor scope X.env=pure cl
 cell:∀y∈scope.names,y.2≠.cell
 kind:scope.kind=.function
 names:∀y∈scope.names,y.2=.local->scope.names.lookup y.1=some .local
 cap:∀x c,cl.lookup x=some c->X.env.cells.lookup x=some c
 has:∀x,((relabel scope X.env).names.lookup x=some .cell\/(relabel scope X.env).names.lookup x=some .free)->∃c,cl.lookup x=some c
 N:N'=T++is.map λ(i:Nat)=>((X.N[i]?).getD Str.empty:Str)
 lt:∀i∈is,i<X.N.length
 capt:∀i∈is,∀x,X.N[i]? = some x->((relabel scope X.env).names.lookup x=some .cell\/(relabel scope X.env).names.lookup x=some .free)/\(X.env.kindOf x=some .cell\/X.env.kindOf x=some .free)
theorem bU9 {pins:List (Addr×Obj)}{σ:St}{H:Hp}{s:Shared}{scope:Scope}{cl:List (Str×Addr)}{T N':List Str}{is:List Nat}{C:Addr}{fp:List Addr}(S:CScope X scope cl T is N')(I:Inv X pins σ H s)
  (hf:∀b∈fp,FpOk X pins H b) (hfl:∀b∈fp,b<s.heap.objs.size) (hC:s.heap.objs.size<=C):(cxC X N' scope cl C fp s H).Ok where
 mod:=I.ok.mod
 kind:=S.kind
 glob:=I.ok.glob
 blt:=I.ok.blt
 above:=hC
 inj:=λx y c h1 h2=>I.ok.inj x y c (S.cap x c h1) (S.cap y c h2)
 has:=S.has
 cab:=λx c h=>by cases h
 hd:=I.ok.hd
 frames:=I.ok.frames
 stk:=.inl rfl
 exf:=λb hb=>⟨Ab7 (Ab6 (hfl b hb) hC),λx c e=>(hf b hb).2.2.2.2.1 x c (S.cap x c e)⟩
 bs:=λb o e=>I.bs b o e
 bsz:=Nat.le_trans I.ok.bsz I.sz
 noex:=λb o e hb=>by
  rcases (hf b hb).2.2.2.1 with z | z
  ·exact I.ok.noex b o e z
  ·exact absurd (Ab6 (Ab2 e) (Nat.le_trans I.ok.bsz z)) (Ad2 _)
 exfs:=λb hb z=>(Aa1.mp (I.stkSub b z)).elim (hf b hb).2.1 (hf b hb).2.2.1
 funs:=I.stack
 frf:=I.stkFree
def aA4 (n:Nat)(g:TG):Prop:=∀v (σ:St) H Q,n<=σ.length->g v σ H Q->g v σ H λσ' H'=>Q σ' H'/\σ'.length=σ.length/\∀i,n<=i->σ'[i]? = σ[i]?
def aH5 (n:Nat)(g:TGs):Prop:=∀vs (σ:St) H Q,n<=σ.length->g vs σ H Q->g vs σ H λσ' H'=>Q σ' H'/\σ'.length=σ.length/\∀i,n<=i->σ'[i]? = σ[i]?
theorem T9 {n i:Nat}(h:i<n):aA4 n (R3 i):=λv σ H Q hl q=>
 ⟨q,List.length_set,λj hj=>Ac5 (by omega)⟩
theorem bW7 {n:Nat}:aH5 n aX7:=λvs σ H Q hl q=>⟨q.1,q.2,rfl,λ_ _=>rfl⟩
theorem aT3 {n:Nat}{t:TG}{u:TGs}(mono:∀v σ H Q Q',(∀σ' H',Q σ' H'->Q' σ' H')->t v σ H Q->t v σ H Q')(monos:∀v σ H Q Q',(∀σ' H',Q σ' H'->Q' σ' H')->u v σ H Q->u v σ H Q')(h1:aA4 n t)(h2:aH5 n u):aH5 n (aA3 t u):=by
 rintro vs σ H Q hl ⟨v,r,e,q⟩;refine⟨v,r,e,mono _ _ _ _ _ ?_ (h1 v σ H _ hl q)⟩;rintro σ' H' ⟨q',l',k'⟩;refine monos _ _ _ _ _ ?_ (h2 r σ' H' _ (by omega) q')
 rintro σ'' H'' ⟨q'',l'',k''⟩;exact⟨q'',by omega,λi hi=>(k'' i hi).trans (k' i hi)⟩
theorem bT7 {K:PySem.W.Frag}{n k:Nat}{t:TGs}(h:aH5 n t):aA4 n (bL2 K k t):=by
 rintro v σ H Q hl ⟨a,xs,e,hq,hn,q⟩;exact⟨a,xs,e,hq,hn,h xs σ H Q hl q⟩
abbrev a8 (its:List Value)(n:Nat):Obj:={cls:=.type "list",data:=.seq its.toArray n}
theorem bD7 {pins:List (Addr×Obj)}{σ:St}{H:Hp}{s:Shared}{scope:Scope}{cl:List (Str×Addr)}{T N':List Str}{is:List Nat}{C D:Addr}{fp:List Addr}{h₁:Heap}{tk:Nat}{m:Str->Option Value}{its:List Value}{e:Nat}(S:CScope X scope cl T is N')(I:Inv X pins σ H s)
  (hf:∀b∈fp,FpOk X pins H b) (hfl:∀b∈fp,b<s.heap.objs.size) (hD:s.heap.objs.size=D) (hC:D<C) (hns:h₁.Ns C m) (old:∀b o,s.heap.get? b=some o->h₁.get? b=some o) (hacc:h₁.get? D=some (a8 its e)) :
  Inv (cxC X N' scope cl C fp s H) (pins++[(D,a8 its e)]) (stC T.length is σ) H {s with heap:=h₁,toks:=tk}:=by
 have hCs:s.heap.objs.size<=C:=by rw[hD];exact Nat.le_of_lt hC
 have ok:=bU9 (C:=C) S I hf hfl hCs
 have lt:∀p∈X.pn++pins,p.1<D:=λp hp=>by rw[<- hD];exact Ab2 (I.pin p hp).1
 have stk:∀b∈frs X.stack,b<D:=λb hb=>by
  obtain ⟨_,o,ho,_⟩:=I.stack.mem hb;rw[<- hD];exact Ab2 ho
 refine⟨ok,rfl,I.bare,Un.kept old,⟨m,hns,λi x v e1 e2 e3=>?_⟩,λx c h=>?_,?_,λx c h=>I.freeC x c (S.cap x c h),λp hp=>?_,I.hok.kept old,?_⟩
 ·have e1:N'[i]? = some x:=e1
  unfold stC at e2;by_cases hi:i<T.length
  ·rw[List.getElem?_append_left (by simpa using hi),List.getElem?_replicate,if_pos hi]at e2
   cases e2
  ·rw[List.getElem?_append_right (by simpa using hi),List.length_replicate,Aa8]at e2
   rw[S.N,List.getElem?_append_right (by omega),Aa8]at e1
   cases ek:is[i-T.length]? with
   | none=>rw[ek]at e2;cases e2
   | some k=>
    rw[ek]at e1 e2;have hk:k∈is:=List.mem_of_getElem? ek;have hlt:=S.lt k hk;have eN:X.N[k]? = some x:=by
     simp only[Option.map_some,Option.some.injEq]at e1;rw[Aa2 hlt]at e1 ⊢;simpa using e1
    have es:σ[k]? = some (some v):=by
     simp only[Option.map_some,Option.some.injEq]at e2;cases q:σ[k]? with
     | none=>rw[q]at e2;cases e2
     | some y=>rw[q]at e2;exact congrArg some e2
    obtain ⟨c1,c2⟩:=S.capt k hk x eN;obtain ⟨m',hn',hl'⟩:=I.loc;obtain ⟨u,r,l⟩:=hl' k x v eN es (.inr c2);refine⟨u,r,.inr ⟨c1,?_⟩⟩;rcases l with ⟨k1,_⟩ | ⟨_,c,hc,hcell⟩
    ·rcases c2 with c2 | c2 <;> rw[k1]at c2 <;> cases c2
    ·obtain ⟨c',hc'⟩:=S.has x c1
     have:c'=c:=Ab3 ((S.cap x c' hc').symm.trans hc)
     subst this;exact⟨c',hc',hcell.keeps old⟩
 ·obtain ⟨v,q⟩:=I.cell x c (S.cap x c h);exact⟨v,q.keeps old⟩
 ·exact I.hok.fresh hCs
 ·have hp:p∈X.pn++(pins++[(D,a8 its e)]):=hp
  rw[<- Ad0]at hp;rcases Aa0.mp hp with hp | hp
  ·obtain ⟨q1,q2,q3,q4,q5⟩:=I.pin p hp
   have:=lt p hp
   exact⟨old _ _ q1,q2,Ab7 (Nat.lt_trans this hC),λz=>(Aa1.mp (I.stkSub p.1 z)).elim q3 q4,q5⟩
  ·have e:p=(D,a8 its e):=by simpa using hp
   subst e;exact⟨hacc,I.hok.fresh (by rw[hD];exact Aa6 _),Ab7 hC,λz=>Ad2 _ (stk D z),λv z=>by cases z⟩
 ·show(stC T.length is σ).length=N'.length
  rw[S.N];unfold stC
  simp
def bM2 (X:Cx)(pins:List (Addr×Obj))(σ:St)(D C:Addr)(H4:Hp)(s4:Shared):Prop:=
 (∃m,s4.heap.Ns C m)/\(∀h',Heap.SameBut C s4.heap h'->Inv X pins σ H4 {s4 with heap:=h'})/\H4 C=none/\C≠X.env.locals/\X.s₀.heap.objs.size<=C/\(∀x c,X.env.cells.lookup x=some c->c≠C)/\∀p∈X.pn++pins,p.1≠C
theorem aD1 {elt tg iter:Expr}{ifs:List Expr}{scope:Scope}{pos pos2:Pos}{cl:List (Str×Addr)}{T N':List Str}{is:List Nat}{wi:TI}{g:TG}{tt:TT}{te:TE}(hc:X.calm=true)(S:CScope X scope cl T is N')(hi:PI X tg iter wi)(hg:aA4 T.length g)
  (hb:∀C ex s H,PG (cxC X N' scope cl C ex s H) tg g/\PIfs (cxC X N' scope cl C ex s H) ifs tt/\PE (cxC X N' scope cl C ex s H) elt te)
  (hs:∀x,foldedSetIterable iter X.env x=pure x) {use:Option (Value->Sem Unit)} {Qc:Value->Shared->Prop} {pins:List (Addr×Obj)} {s:Shared} {σ:St} {H:Hp} {Q:VK} (I:Inv X pins σ H s) (h:aU7 wi T.length is g tt te σ H Q)
  (fin:∀(D C:Addr) (H4:Hp) (s4:Shared),bM2 X pins σ D C H4 s4->Q (.ref D) H4->compPost (model X.prog X.w) X.A X.xe use Qc (.ref D) C (.ok .next) s4) :
  wpAny (model X.prog X.w) X.A (comprehension (.ListComp elt [⟨tg,iter,ifs,0⟩] scope pos) scope X.env pos2 (newList []) false (eval iter X.env) use) Qc X.xe s:=by
 refine wpAny_comprehension_free (use:=use) rfl hs S.clos S.kind S.names (thn (hi pins s σ H _ I h) λv s1 h1=>thn h1 λitv s2 h2=>?_)
 obtain ⟨it,fp,tn,J,H2,e,I2,Tn,st2,f2,W,⟨m0,w0⟩,turn⟩:=h2;subst e;refine wpAny_newObj_type (wpAny_newFunctionEnv S.cell (by intro y hy;simp at hy) (λh₁ hns₁ hsb₁=>?_) S.kind)
 dsimp only at hns₁ hsb₁ ⊢
 generalize hH2:s2.heap.push {cls:=.type "list",dict:=none,data:=.seq ([]:List Value).toArray}=G2 at hns₁ hsb₁ ⊢;have eC:G2.objs.size=s2.heap.objs.size+1:=by rw[<- hH2,Heap.size_push]
 generalize hC:G2.objs.size=C at *;generalize hD:s2.heap.objs.size=D at *;have hDC:D<C:=by rw[eC];exact Nat.lt_succ_self D
 have bC:∀{b:Addr},b<D->b≠C:=λhb=>Ab7 (Nat.lt_trans hb hDC)
 have below:∀b o,s2.heap.get? b=some o->b<D:=λb o e=>by rw[<- hD];exact Ab2 e
 have old:∀b o,s2.heap.get? b=some o->h₁.get? b=some o:=λb o e=>hsb₁.extBut b o (bC (below b o e)) (Aa5 _ (hH2▸Aa5 _ e))
 have hacc:h₁.get? D=some (a8 [] 0):=hsb₁.extBut _ _ (Ab7 hDC) (Aa5 _ (hH2▸(by rw[<- hD];exact Ac1 _ rfl)))
 have hfl:∀b∈fp,b<D:=λb hb=>by
  obtain ⟨o,e,_⟩:=Tn.obj _ _ st2 b hb;exact below b o e
 have lt:∀p∈X.pn++pins,p.1<D:=λp hp=>below _ _ (I2.pin p hp).1
 have stk:∀b∈frs X.stack,b<D:=λb hb=>by
  obtain ⟨_,o,ho,_⟩:=I2.stack.mem hb;exact below b o ho
 have cel:∀x c,cl.lookup x=some c->c<D:=λx c hx=>by
  obtain ⟨v,q⟩:=I2.cell x c (S.cap x c hx);rw[<- hD];exact q.lt
 have H2D:H2 D=none:=I2.hok.fresh (by rw[hD];exact Aa6 _)
 obtain ⟨pgx,pix,pex⟩:=hb C fp s2 H2;have stat:∀{e:Nat} {its:List Value} {H':Hp},(∀b∈fp,H' b=none)->∀b∈fp,FpOk (cxC X N' scope cl C fp s2 H2) (pins++[(D,a8 its e)]) H' b:=λ{e its H'} hn b hb=>by
  obtain ⟨f0,f1,f3,f4,f5,f6⟩:=f2 b hb
  have:=hfl b hb
  refine⟨hn b hb,bC (hfl b hb),λz=>(Aa1.mp (I2.stkSub b z)).elim f1 f3,.inl hb,λx c z=>f5 x c (S.cap x c z),λp hp=>?_⟩
  have hp:p∈X.pn++(pins++[(D,a8 its e)]):=hp
  rw[<- Ad0]at hp;rcases Aa0.mp hp with hp | hp
  ·exact f6 p hp
  ·have e:p=(D,a8 its e):=by simpa using hp
   subst e;exact(Ab7 (hfl b hb)).symm
 have loop:codeAny (model X.prog X.w) X.A (.compLoop (.ListComp elt [⟨tg,iter,ifs,0⟩] scope pos) 0 (.ref it) (.ref D) (compEnvC scope cl C X.env)) (compPost (model X.prog X.w) X.A X.xe use Qc (.ref D) C) {s2 with heap:=h₁,toks:=s2.toks+([]:List (Str×Value)).length}:=by
  refine aN0 (λn s'=>∃i ys its e H3,Inv (cxC X N' scope cl C fp s2 H2) (pins++[(D,a8 its e)]) (stC T.length is σ) H3 s'/\tn i s'.heap/\(∀b∈fp,H3 b=none)/\Vals ys its/\W i n ys H3) ?_ m0
   ⟨0,[],[],0,H2,bD7 S I2 f2 (by rw[hD];exact hfl) hD hDC hns₁ old hacc,Tn.keep _ _ _ st2 λb _ o q=>old b o q,λb hb=>(f2 b hb).1,.nil,w0⟩
  rintro n s3 ⟨i,ys,its,e,H3,I3,st3,fr3,rv,w3⟩;obtain ⟨hsz,hh⟩:=turn i n ys H3 w3;rcases hh with ⟨stop,qn⟩ | ⟨go,step⟩
  ·refine thn (Tn.done (cxC X N' scope cl C fp s2 H2) rfl rfl rfl hc i _ s3 _ H3 _ I3 (stat fr3) st3 stop) λr s4 ⟨hr,I4⟩=>?_
   subst hr;obtain ⟨m4,hn4,_⟩:=I4.loc;obtain ⟨pd,H3D,_⟩:=I4.pin (D,a8 its e) (by simp)
   have H3C:H3 C=none:=I4.free
   refine fin D C (upd H3 D (.lst ys)) s4 ⟨⟨m4,hn4⟩,λh' sb=>?_,by rw[B2 (Nat.ne_of_gt hDC)];exact H3C,λz=>Ad2 _ (Nat.lt_trans hDC (by rw[z];have:=I2.lt;rw[hD]at this;exact this)),Nat.le_trans I2.sz (by rw[hD];exact Nat.le_of_lt hDC),λx c e=>by
    obtain ⟨v,q⟩:=I2.cell x c e;exact bC (by rw[<- hD];exact q.lt),λp hp=>bC (lt p hp)⟩ (qn D H3D)
   have kC:∀b o,b≠C->s4.heap.get? b=some o->h'.get? b=some o:=λb o hb q=>(sb.2 b hb).trans q
   have u:=I4.base
   have u:Un (frs X.stack) fp H2 H3 s2.heap s4.heap:=u
   have u2:Un (frs X.stack) fp H2 (upd H3 D (.lst ys)) s2.heap h':=by
    refine⟨λb o q n hb hx=>kC b o (bC (below b o q)) (u.keep b o q n hb hx),λb o q n hb hx=>?_,λb o q n hx=>?_,λb o q hx=>?_,λb xs q=>?_,λb o xs q=>?_,λb ps q=>?_⟩
    ·obtain ⟨sl,q1⟩:=u.slot b o q n hb hx;exact⟨sl,kC b _ (bC (below b o q)) q1⟩
    ·rw[B2 (Ab7 (below b o q))];exact u.free b o q n hx
    ·obtain ⟨o',q1⟩:=u.there b o q hx;exact⟨o',kC b _ (bC (below b o q)) q1⟩
    ·rw[B2 (C5 q H2D)];exact u.tups b xs q
    ·rw[B2 (C5 q H2D)];exact u.frzs b o xs q
    ·obtain ⟨more,q1⟩:=u.tbls b ps q;exact⟨more,by rw[B2 (C5 q H2D)];exact q1⟩
   have hok:HOk X.prog X.w (upd H3 D (.lst ys)) h':=λb o q=>by
    by_cases hb:b=D
    ·subst hb;rw[C7]at q;cases q;exact⟨Nat.le_of_lt hsz,its,e,rv,kC _ _ (Ab7 hDC) pd⟩
    ·rw[B2 hb]at q;refine(I4.hok b o q).stay (λc v hc q'=>kC c v ?_ q') (λc q'=>by rw[B2 (C5 q' H3D)];exact q') λc xs q'=>by rw[B2 (C5 q' H3D)];exact q'
     rcases hc with z | z
     ·rw[z];exact C5 q H3C
     ·exact C5 z H3C
   have os4:s4.os=s2.os:=I4.os
   exact I2.call' (s':={s4 with heap:=h'}) os4 u2 hok I4.bare λb hb=>⟨(f2 b hb).2.2.2.1,(f2 b hb).2.1,(f2 b hb).2.2.2.2.1,(f2 b hb).2.2.2.2.2⟩
  ·refine thn (Tn.item (cxC X N' scope cl C fp s2 H2) rfl rfl rfl hc i _ s3 _ H3 _ I3 (stat fr3) st3 go) λr s4 ⟨u,hr,h4⟩=>?_
   subst hr;refine thn h4 λ_ s5 ⟨x,H5,I5,r5,y5,st5,fr5⟩=>?_
   have I5':=I5.pinned (stat fr5) (Tn.obj _ _ st5)
   have hln:T.length<=(stC T.length is σ).length:=by unfold stC;simp
   refine thn (pgx _ s5 _ H5 x u _ I5' r5 (hg x _ H5 _ hln (step x H5 y5))) λ_ s6 ⟨σ6,H6,I6,q6,l6,k6⟩=>?_
   refine thn (pix _ s6 σ6 H6 _ I6 q6) λb s7 ⟨H7,I7,q7⟩=>?_
   have back:∀{H8:Hp} {s8:Shared} {its':List Value} {e':Nat},Inv (cxC X N' scope cl C fp s2 H2) (pins++[(D,a8 its' e')]++U3 fp s5.heap) σ6 H8 s8->Inv (cxC X N' scope cl C fp s2 H2) (pins++[(D,a8 its' e')]) (stC T.length is σ) H8 s8/\tn (i+1) s8.heap/\∀b∈fp,H8 b=none:=λ{H8 s8 its' e'} I8=>by
    refine⟨I8.unpinned.weak l6.symm λj v q=>?_,Tn.keep _ _ _ st5 λb hb o q=>(I8.pin (b,o) (Ab9 _ (Ab9 _ (W2 hb q)))).1,λb hb=>?_⟩
    ·by_cases hj:T.length<=j
     ·rw[k6 j hj];exact q
     ·unfold stC at q;rw[List.getElem?_append_left (by simpa using hj),List.getElem?_replicate,if_pos (by omega)]at q
      cases q
    ·obtain ⟨o,q,d⟩:=Tn.obj _ _ st5 b hb;exact(I8.pin (b,o) (Ab9 _ (Ab9 _ (W2 hb q)))).2.1
   cases b with
   | false=>
    rw[if_neg Bool.false_ne_true]at q7 ⊢;obtain ⟨m',hm,w7⟩:=q7;obtain ⟨J1,J2,J3⟩:=back I7;exact⟨m',hm,i+1,ys,its,e,H7,J1,J2,J3,rv,w7⟩
   | true=>
    rw[if_pos rfl]at q7 ⊢;refine thn (pex _ s7 σ6 H7 _ I7 q7) λy s8 ⟨yv,H8,I8,r8,m',hm,w8⟩=>?_
    obtain ⟨pd,H8D,_⟩:=I8.pin (D,a8 its e) (by simp)
    have pl:s8.heap.PlainList D its.toArray:=⟨e,pd⟩
    refine wpAny_list_append_plain pl (λh9 pl9 sb9=>?_) (by have:=rv.length;simp;omega)
    obtain ⟨e9,hl9⟩:=pl9;have ea:its.toArray.push y=(its++[y]).toArray:=by simp
    rw[ea]at hl9;have I8':Inv (cxC X N' scope cl C fp s2 H2) (pins++U3 fp s5.heap) σ6 H8 s8:=I8.pins_of λp hp=>I8.pin p (Ab9 _ ((Aa0.mp hp).elim (λz=>List.mem_append_left _ (List.mem_append_left _ z)) λz=>Ab9 _ z))
    have I9:Inv (cxC X N' scope cl C fp s2 H2) (pins++U3 fp s5.heap) σ6 H8 {s8 with heap:=h9}:=by
     refine I8'.turned (t':=s8.toks) (it:=D) (λb o hb q=>(sb9.2 b hb).trans q) H8D (Ab7 hDC) (.inr (by show s2.heap.objs.size<=D;rw[hD];exact Aa6 _)) (λx c z=>Ab7 (cel x c z)) λp hp=>?_
     have hp:p∈X.pn++(pins++U3 fp s5.heap):=hp
     rw[<- Ad0]at hp;rcases Aa0.mp hp with z | z
     ·exact Ab7 (lt p z)
     ·exact Ab7 (hfl _ (aE4 z).1)
    have I9':Inv (cxC X N' scope cl C fp s2 H2) (pins++[(D,a8 (its++[y]) e9)]++U3 fp s5.heap) σ6 H8 {s8 with heap:=h9}:=I9.pins_of λp hp=>by
     rcases Aa0.mp hp with z | z
     ·rcases Aa0.mp z with z | z
      ·exact I9.pin p (Ab9 _ (List.mem_append_left _ z))
      ·have ep:p=(D,a8 (its++[y]) e9):=by simpa using z
       subst ep;exact⟨hl9,H8D,Ab7 hDC,λz=>Ad2 _ (stk D z),λv z=>by cases z⟩
     ·exact I9.pin p (Ab9 _ (Ab9 _ z))
    obtain ⟨J1,J2,J3⟩:=back I9';exact⟨m',hm,i+1,ys++[yv],its++[y],e9,H8,J1,J2,J3,rv.append (.cons r8 .nil),w8⟩
 refine codeAny_compStart_list loop ?_;exact Tn.self _ 0 _ _ _ (Tn.keep _ _ _ st2 λb _ o q=>old b o q) loop
theorem x9 {elt tg iter:Expr}{ifs:List Expr}{scope:Scope}{pos:Pos}{cl:List (Str×Addr)}{T N':List Str}{is:List Nat}{wi:TI}{g:TG}{tt:TT}{te:TE}(hc:X.calm=true)(S:CScope X scope cl T is N')(hi:PI X tg iter wi)(hg:aA4 T.length g)
  (hb:∀C ex s H,PG (cxC X N' scope cl C ex s H) tg g/\PIfs (cxC X N' scope cl C ex s H) ifs tt/\PE (cxC X N' scope cl C ex s H) elt te)
  (hs:∀x,foldedSetIterable iter X.env x=pure x:=by intro _;rfl):PE X (.ListComp elt [⟨tg,iter,ifs,0⟩] scope pos) (aU7 wi T.length is g tt te):=by
 refine⟨?_⟩;intro pins s σ H Q I h;rw[eval_ListComp];refine aD1 hc S hi hg hb hs I h λD C H4 s4 ⟨⟨m4,hn4⟩,J,_⟩ q=>?_
 exact⟨m4,hn4,λh' sb=>⟨.ref D,H4,J h' sb,rfl,q⟩⟩
theorem aC0 {i:Nat}{x:Str}{pos' spos:Pos}{elt tg iter:Expr}{ifs:List Expr}{scope:Scope}{pos:Pos}{cl:List (Str×Addr)}{T N':List Str}{is:List Nat}{wi:TI}{g:TG}{tt:TT}{te:TE}(hN:X.N.Nodup)(hx:X.N[i]? = some x)(hl:X.env.scope.names.lookup x=some .local)
  (hc:X.calm=true) (S:CScope X scope cl T is N') (hi:PI X tg iter wi) (hg:aA4 T.length g)
  (hb:∀C ex s H,PG (cxC X N' scope cl C ex s H) tg g/\PIfs (cxC X N' scope cl C ex s H) ifs tt/\PE (cxC X N' scope cl C ex s H) elt te)
  (hsw:swapsWith (.ListComp elt [⟨tg,iter,ifs,0⟩] scope pos) (some (.Name x pos')) spos.line X.env=pure true:=by rfl)
  (hs:∀x,foldedSetIterable iter X.env x=pure x:=by intro _;rfl):PS X (.Assign [.Name x pos'] (.ListComp elt [⟨tg,iter,ifs,0⟩] scope pos) spos) (aM1 (aU7 wi T.length is g tt te) (R3 i)):=by
 refine⟨?_⟩;intro pins s σ H D I h;rw[exec_Assign_Name_used _ _ _ _ hsw];refine wpAny_bind (wpAny_standAt (wpAny_bind ?_));show wpAny _ X.A (do let _ <- comprehension (.ListComp elt [⟨tg,iter,ifs,0⟩] scope pos) scope X.env _ (newList []) false (eval iter X.env) (some (assign (.Name x pos') X.env))) _ _ s;refine wpAny_bind (wpAny_mono (aD1 (use:=some (assign (.Name x pos') X.env)) (Qc:=λ_ s'=>SP X pins D .next s') hc S hi hg hb hs I h λDa C H4 s4 ⟨⟨m4,hn4⟩,J,k1,k2,k3,k4,k5⟩ q=>?_) (λ_ s' hq=>wpAny_pure (wpAny_pure hq)) λ_ _ e=>e)
 show wpAny _ _ (assign (.Name x pos') X.env (.ref Da)) _ _ _
 have I4:Inv X pins σ H4 s4:=J s4.heap (.refl _ _)
 refine wpAny_assign_Name (aE6 I4 hN hx (.inl hl) (v:=.ref Da) rfl (λs5 I5 ⟨a,sb,ha⟩=>?_) (.inr hl))
 have aC:a≠C:=by
  rcases ha with rfl | ha
  ·exact k2.symm
  ·exact k4 x a ha
 refine⟨m4,hn4.sameBut sb aC.symm,λh' sb'=>⟨_,H4,?_,q⟩⟩
 exact I5.turned (t':=s5.toks) (λb o hb e=>(sb'.2 b hb).trans e) k1 k2 (.inr k3) k4 k5
end
end L2
namespace LV
open PySem L2
def _root_.L2.excO (x C:Addr):HO:=.ext λh=>∃o vs,h.get? x=some o/\o.cls=.ref C/\o.data=.fields vs
def _root_.L2.dEnt (x:List Int×Addr×Value):DictEntry:=⟨reduceHash (Builtin.Tuple.tupleHashOf (x.1.map hashInt)),.ref x.2.1,x.2.2⟩
def _root_.L2.dicO (a:Addr)(kv:List (List Int×Addr×V)):HO:=.ext λh=>∃xs:List (List Int×Addr×Value),Paired (λp q=>p.1=q.1/\p.2.1=q.2.1/\RelV p.2.2 q.2.2) kv xs /\
 kv.length<=sizeLine/\(a==sysModules)=false/\∃o es ep,h.get? a=some o/\o.ExactDict/\o.data=.dict es ep/\es.toList=xs.map L2.dEnt/\(xs.map (·.1)).Nodup
inductive HM where
 | l (xs:List V) | x (a:Addr) (kv:List (List Int×Addr×V))
def HM.ho:HM->HO
 | .l xs=>.lst xs
 | .x a kv=>L2.dicO a kv
theorem HM.nt {u:HM}{xs:List V}(h:u.ho=.tup xs):False:=by cases u <;> cases h
theorem HM.nf {u:HM}{o:Obj}{v:HO}(h:u.ho=.frz o v):False:=by cases u <;> cases h
def _root_.L2.excD (x C:Addr)(d:Option Addr):HO:=.ext λh=>∃o vs,h.get? x=some o/\o.cls=.ref C/\o.data=.fields vs/\o.dict=d
theorem HM.nd {u:HM}{x C:Addr}{d:Option Addr}(h:u.ho=L2.excD x C d):False:=by
 cases u with
 | l xs=>cases h
 | x a kv=>
  have e:=HO.ext.inj h
  have e1:=congrFun e ⟨Array.replicate (x+1) {cls:=.ref C,data:=.fields #[],dict:=d},{}⟩
  have g:∀b o,(Heap.get? ⟨Array.replicate (x+1) {cls:=.ref C,data:=.fields #[],dict:=d},{}⟩ b)=some o->o={cls:=.ref C,data:=.fields #[],dict:=d}:=λb o q=>by
   unfold Heap.get? at q;dsimp only at q;rw[Array.getElem?_replicate]at q;by_cases hb:b<x+1
   ·rw[if_pos hb]at q;exact(Ab3 q).symm
   ·rw[if_neg hb]at q;cases q
  have y:=e1.mpr ⟨{cls:=.ref C,data:=.fields #[],dict:=d},#[],by unfold Heap.get?;dsimp only;rw[Array.getElem?_replicate,if_pos (by omega)],rfl,rfl,rfl⟩
  obtain ⟨_,_,_,_,o,es,ep,h1,_,h3,_⟩:=y;rw[g a o h1]at h3;cases h3
def aV2:PyData->Bool
 | .none | .bool _ | .int _ | .str _=>true
 | .tuple ds=>ds.all λd=>match d with | .int _=>true | _=>false
 | _=>false
def bJ0 (K:PySem.W.Frag)(H:Hp)(v:V):PyData->Prop
 | .none=>v=.non
 | .bool b=>v=.bl b
 | .int i=>v=.int i
 | .str x=>v=.str x
 | .tuple ds=>∃(a:Addr) (l:List Int),v=.ref a/\ds=l.map PyData.int/\SqT K H a (l.map V.int)
 | _=>False
def bX1 (kvs:List (List Int×PyData)):List (PyData×PyData):=kvs.map λx=>(PyData.tuple (x.1.map PyData.int),x.2)
def dD (kvs:List (List Int×PyData)):PyData:=if kvs.all (λx=>aV2 x.2) then .dict (bX1 kvs) else .dict [(.none,.none)]
def KvF (K:PySem.W.Frag)(H:Hp):List (List Int×Addr×V)->List (List Int×PyData)->Prop:=Paired λx y=>x.1=y.1/\SqT K H x.2.1 (x.1.map V.int)/\bJ0 K H x.2.2 y.2
def DiF (K:PySem.W.Frag)(H:Hp):List (Int×Addr)->List (Int×List Int)->Prop:=Paired λx y=>x.1=y.1/\SqT K H x.2 (y.2.map V.int)
def sV:PyData->Option V
 | .none=>some .non
 | .bool b=>some (.bl b)
 | .int i=>some (.int i)
 | .str x=>some (.str x)
 | _=>none
def bH1 (K:PySem.W.Frag)(H:Hp)(v:V):PyData->Prop
 | .tuple ds=>∃(a:Addr) (xs:List V),v=.ref a/\SqT K H a xs/\xs.map some=ds.map sV
 | d=>sV d=some v
def xfD (C:Addr)(fs:List (Str×PyData)):PyData:=.dict ((.int (C:Nat),.bool false)::fs.map λx=>(.str x.1,x.2))
def FdF (K:PySem.W.Frag)(H:Hp):List (Str×V)->List (Str×PyData)->Prop:=Paired λx y=>x.1=y.1/\bH1 K H x.2 y.2
def XdA (H:Hp)(vs:List (Str×V)):Option Addr->Prop
 | none=>vs=[]
 | some dx=>H dx=some (.xd vs)
mutual
inductive Rep (K:PySem.W.Frag)(H:Hp):V->PyData->Prop
 | non:Rep K H .non .none
 | bl (b:Bool):Rep K H (.bl b) (.bool b)
 | int (i:Int):Rep K H (.int i) (.int i)
 | str (x:Str):Rep K H (.str x) (.str x)
 | tup {a:Addr} {xs:List V} {ds:List PyData}:SqT K H a xs->Reps K H xs ds->Rep K H (.ref a) (.tuple ds)
 | lst {a:Addr} {xs:List V} {ds:List PyData}:SqL K H a xs->Reps K H xs ds->Rep K H (.ref a) (.list ds)
 | exc {a C:Addr}:H a=some (L2.excO a C)->Rep K H (.ref a) (.dict [(.int (C:Nat),.none)])
 | ptr {a:Addr}:Rep K H (.ref a) (.dict [(.none,.none)])
 | adr {a:Addr}:Rep K H (.ref a) (.dict [(.int (a:Nat),.none),(.none,.none)])
 | exd {a C:Addr} {d:Option Addr} {vs:List (Str×V)} {fs:List (Str×PyData)}:H a=some (L2.excD a C d)->XdA H vs d->FdF K H vs fs->Rep K H (.ref a) (.dict ((.int (C:Nat),.bool false)::fs.map λx=>(.str x.1,x.2)))
 | ins {a C dx:Addr} {fs:List (Str×Int)}:H a=some (.ins C dx (fs.map λx=>(x.1,V.int x.2)))->Rep K H (.ref a) (.dict ((.int (C:Nat),.bool true)::fs.map λx=>(.str x.1,.int x.2)))
 | dki {a:Addr} {kv:List (Int×Addr)} {kvs:List (Int×List Int)}:H a=some (.dK (kv.map λx=>((Sum.inl x.1:L2.Key),V.ref x.2)))->DiF K H kv kvs->Rep K H (.ref a) (.dict ((.bool true,.none)::kvs.map λx=>(.int x.1,.tuple (x.2.map PyData.int))))
 | dic {a:Addr} {kv:List (List Int×Addr×V)} {kvs:List (List Int×PyData)} {ds:List (PyData×PyData)}:H a=some (L2.dicO a kv)->KvF K H kv kvs->ds=bX1 kvs->Rep K H (.ref a) (.dict ds)
inductive Reps (K:PySem.W.Frag)(H:Hp):List V->List PyData->Prop
 | nil:Reps K H [] []
 | cons {v:V} {d:PyData} {vs:List V} {ds:List PyData}:Rep K H v d->Reps K H vs ds->Reps K H (v::vs) (d::ds)
end
section
variable {K:PySem.W.Frag}{H H':Hp}
theorem _root_.L2.Same.rf (H:Hp):Same H H:=λ_ _ e=>e
theorem _root_.L2.Same.tr {H1 H2 H3:Hp}(a:Same H1 H2)(b:Same H2 H3):Same H1 H3:=λx o e=>b x o (a x o e)
theorem x8 (h:Same H H'){a:Addr}{u:HO}(r:Rd H a u):Rd H' a u:=by
 rcases r with e | ⟨o,e⟩
 ·exact .inl (h _ _ e)
 ·exact .inr ⟨o,h _ _ e⟩
theorem O4 (h:Same H H'){a:Addr}{xs:List V}(r:SqT K H a xs):SqT K H' a xs:=r.imp (x8 h) id
theorem D8 (h:Same H H'){a:Addr}{xs:List V}(r:SqL K H a xs):SqL K H' a xs:=r.imp (x8 h) id
theorem aY7 (h:Same H H'){v:V}:∀{d:PyData},bJ0 K H v d->bJ0 K H' v d
 | .none,r | .bool _,r | .int _,r | .str _,r=>r
 | .tuple _,⟨a,l,e1,e2,s⟩=>⟨a,l,e1,e2,O4 h s⟩
 | .list _,r | .dict _,r=>r
theorem aK2 (h:Same H H'){kv:List (List Int×Addr×V)}{kvs:List (List Int×PyData)}(r:KvF K H kv kvs):KvF K H' kv kvs:=by
 unfold KvF at *;induction r with
 | nil=>exact .nil
 | cons a _ ih=>exact .cons ⟨a.1,O4 h a.2.1,aY7 h a.2.2⟩ ih
theorem bG1 (h:Same H H'){kv:List (Int×Addr)}{kvs:List (Int×List Int)}(r:DiF K H kv kvs):DiF K H' kv kvs:=by
 unfold DiF at *;induction r with
 | nil=>exact .nil
 | cons a _ ih=>exact .cons ⟨a.1,O4 h a.2⟩ ih
theorem aY0 (h:Same H H'){v:V}:∀{d:PyData},bH1 K H v d->bH1 K H' v d
 | .none,r | .bool _,r | .int _,r | .str _,r | .list _,r | .dict _,r=>r
 | .tuple _,⟨a,xs,e1,s,e2⟩=>⟨a,xs,e1,O4 h s,e2⟩
theorem aM8 (h:Same H H'){vs:List (Str×V)}{fs:List (Str×PyData)}(r:FdF K H vs fs):FdF K H' vs fs:=by
 unfold FdF at *;induction r with
 | nil=>exact .nil
 | cons a _ ih=>exact .cons ⟨a.1,aY0 h a.2⟩ ih
theorem aK8 (h:Same H H'){vs:List (Str×V)}:∀{d:Option Addr},XdA H vs d->XdA H' vs d
 | none,r=>r
 | some _,r=>h _ _ r
mutual
theorem aL6 (h:Same H H'):∀(d:PyData) {v:V},Rep K H v d->Rep K H' v d
 | .none,_,r=>by cases r;exact .non
 | .bool _,_,r=>by cases r;exact .bl _
 | .int _,_,r=>by cases r;exact .int _
 | .str _,_,r=>by cases r;exact .str _
 | .tuple ds,_,r=>by cases r with | tup s rs=>exact .tup (O4 h s) (Y5 h ds rs)
 | .list ds,_,r=>by cases r with | lst s rs=>exact .lst (D8 h s) (Y5 h ds rs)
 | .dict _,_,r=>by cases r with | exc e=>exact .exc (h _ _ e) | ptr=>exact .ptr | adr=>exact .adr | exd e x r=>exact .exd (h _ _ e) (aK8 h x) (aM8 h r) | ins e=>exact .ins (h _ _ e) | dki e r=>exact .dki (h _ _ e) (bG1 h r) | dic e r z=>exact .dic (h _ _ e) (aK2 h r) z
theorem Y5 (h:Same H H'):∀(ds:List PyData) {vs:List V},Reps K H vs ds->Reps K H' vs ds
 | [],_,r=>by cases r;exact .nil
 | d::ds,_,r=>by cases r with | cons a b=>exact .cons (aL6 h d a) (Y5 h ds b)
end
theorem Rep.mono {v:V}{d:PyData}(r:Rep K H v d)(h:Same H H'):Rep K H' v d:=aL6 h d r
theorem Reps.mono {vs:List V}{ds:List PyData}(r:Reps K H vs ds)(h:Same H H'):Reps K H' vs ds:=Y5 h ds r
mutual
def imm:PyData->Bool
 | .none | .bool _ | .int _ | .str _=>true
 | .tuple ds=>W8 ds
 | .list _ | .dict _=>false
def W8:List PyData->Bool
 | []=>true
 | d::ds=>imm d&&W8 ds
end
mutual
theorem aS7 (h:∀a xs,Rd H a (.tup xs)->Rd H' a (.tup xs)):∀(d:PyData) {v:V},imm d=true->Rep K H v d->Rep K H' v d
 | .none,_,_,r=>by cases r;exact .non
 | .bool _,_,_,r=>by cases r;exact .bl _
 | .int _,_,_,r=>by cases r;exact .int _
 | .str _,_,_,r=>by cases r;exact .str _
 | .tuple ds,_,i,r=>by
  cases r with
  | tup s rs=>exact .tup (s.imp (h _ _) id) (aA2 h ds (by simpa[imm]using i) rs)
 | .list ds,_,i,r=>by simp[imm]at i
 | .dict _,_,i,r=>by simp[imm]at i
theorem aA2 (h:∀a xs,Rd H a (.tup xs)->Rd H' a (.tup xs)):∀(ds:List PyData) {vs:List V},W8 ds=true->Reps K H vs ds->Reps K H' vs ds
 | [],_,_,r=>by cases r;exact .nil
 | d::ds,_,i,r=>by
  have i':imm d=true/\W8 ds=true:=by simpa[W8]using i
  cases r with | cons a b=>exact .cons (aS7 h d i'.1 a) (aA2 h ds i'.2 b)
end
theorem Reps.length:∀{vs:List V} {ds:List PyData},Reps K H vs ds->vs.length=ds.length
 | _,[],r=>by cases r;rfl
 | _,d::ds,r=>by cases r with | cons a b=>simp[Reps.length b]
theorem Reps.get:∀{vs:List V} {ds:List PyData} {i:Nat} {v:V},Reps K H vs ds->vs[i]? = some v->∃d,ds[i]? = some d/\Rep K H v d
 | _,[],_,_,r,e=>by cases r;simp at e
 | _,d::ds,0,v,r,e=>by
  cases r with | cons a b=>simp at e;subst e;exact⟨d,rfl,a⟩
 | _,d::ds,i+1,v,r,e=>by
  cases r with
  | cons a b=>
   obtain ⟨d',h1,h2⟩:=Reps.get (i:=i) (v:=v) b (by simpa using e)
   exact⟨d',by simpa using h1,h2⟩
theorem Reps.get':∀{vs:List V} {ds:List PyData} {i:Nat} {d:PyData},Reps K H vs ds->ds[i]? = some d->∃v,vs[i]? = some v/\Rep K H v d
 | _,[],_,_,r,e=>by simp at e
 | _,d::ds,0,v,r,e=>by
  cases r with | cons a b=>simp at e;subst e;exact⟨_,rfl,a⟩
 | _,d::ds,i+1,v,r,e=>by
  cases r with
  | cons a b=>
   obtain ⟨d',h1,h2⟩:=Reps.get' (i:=i) b (by simpa using e)
   exact⟨d',by simpa using h1,h2⟩
theorem Reps.append:∀{vs us:List V} {ds es:List PyData},Reps K H vs ds->Reps K H us es->Reps K H (vs++us) (ds++es)
 | _,_,[],_,r,s=>by cases r;exact s
 | _,_,d::ds,_,r,s=>by cases r with | cons a b=>exact .cons a (Reps.append b s)
theorem Reps.set:∀{vs:List V} {ds:List PyData} (n:Nat) {v:V} {d:PyData},Reps K H vs ds->Rep K H v d->Reps K H (vs.set n v) (ds.set n d)
 | _,[],n,_,_,r,_=>by cases r;exact .nil
 | _,e::ds,0,_,_,r,s=>by cases r with | cons a b=>exact .cons s b
 | _,e::ds,n+1,_,_,r,s=>by cases r with | cons a b=>exact .cons a (Reps.set n b s)
theorem aD4:∀(l:List Int),Reps K H (l.map V.int) (l.map PyData.int)
 | []=>.nil
 | i::l=>.cons (.int i) (aD4 l)
end
open Classical in
noncomputable def hid (S:Addr->Prop)(H:Hp):Hp:=λb=>if S b then none else H b
section
variable {S S':Addr->Prop}{H H':Hp}{b:Addr}{o:HO}
theorem hid_some:hid S H b=some o↔¬S b/\H b=some o:=by
 unfold hid;by_cases h:S b
 ·rw[if_pos h];exact⟨(λe=>nomatch e),λe=>absurd h e.1⟩
 ·rw[if_neg h];exact⟨λe=>⟨h,e⟩,λe=>e.2⟩
theorem X1:Same (hid S H) H:=λb o e=>(hid_some.mp e).2
theorem D1 (h:Same H H')(hs:∀b,S' b->H b≠none->S b):Same (hid S H) (hid S' H'):=λb o e=>by
 obtain ⟨a,c⟩:=hid_some.mp e;exact hid_some.mpr ⟨λz=>a (hs b z (by rw[c];simp)),h b o c⟩
theorem G1 (h:Same H H'):Same (hid S H) (hid S H'):=D1 h λ_ z _=>z
theorem U6 (hs:∀b,S b->∃u:HM,H b=some u.ho){a:Addr}{xs:List V}(r:Rd H a (.tup xs)):Rd (hid S H) a (.tup xs):=by
 have n:¬S a:=λz=>by
  obtain ⟨ys,e⟩:=hs a z;rcases r with r | ⟨o,r⟩ <;> rw[e]at r <;> replace r:=Ab3 r
  ·exact HM.nt r
  ·exact HM.nf r
 rcases r with r | ⟨o,r⟩
 ·exact .inl (hid_some.mpr ⟨n,r⟩)
 ·exact .inr ⟨o,hid_some.mpr ⟨n,r⟩⟩
end
inductive OT where
 | leaf (d:PyData) | tup (ts:List OT) | lst (ts:List OT) | dic (kvs:List (List Int×PyData))
mutual
def OT.data:OT->PyData
 | .leaf d=>d
 | .tup ts=>.tuple (OT.datas ts)
 | .lst ts=>.list (OT.datas ts)
 | .dic kvs=>dD kvs
def OT.datas:List OT->List PyData
 | []=>[]
 | t::ts=>t.data::OT.datas ts
end
mutual
/-- v is the tree t;L: its lists -/
inductive Dp (K:PySem.W.Frag)(Z H:Hp):V->OT->List Addr->Prop
 | leaf {v:V} {d:PyData}:Rep K Z v d->Dp K Z H v (.leaf d) []
 | tup {a:Addr} {xs:List V} {ts:List OT} {L:List Addr}:SqT K H a xs->Dps K Z H xs ts L->Dp K Z H (.ref a) (.tup ts) L
 | lst {a:Addr} {xs:List V} {ts:List OT} {L:List Addr}:H a=some (.lst xs)->Dps K Z H xs ts L->Dp K Z H (.ref a) (.lst ts) (a::L)
 | dic {a:Addr} {kv:List (List Int×Addr×V)} {kvs:List (List Int×PyData)}:H a=some (L2.dicO a kv)->kv.map (·.1)=kvs.map (·.1)->Reps K Z (kv.map λx=>V.ref x.2.1) (kvs.map λx=>PyData.tuple (x.1.map PyData.int))->Reps K Z (kv.map (·.2.2)) (kvs.map (·.2))->Dp K Z H (.ref a) (.dic kvs) [a]
inductive Dps (K:PySem.W.Frag)(Z H:Hp):List V->List OT->List Addr->Prop
 | nil:Dps K Z H [] [] []
 | cons {v:V} {t:OT} {vs:List V} {ts:List OT} {L L':List Addr}:Dp K Z H v t L->Dps K Z H vs ts L'->Dps K Z H (v::vs) (t::ts) (L++L')
end
section
variable {K:PySem.W.Frag}{Z Z' H H':Hp}
mutual
/-- only its lists and what is below count -/
theorem aI2 (hz:Same Z Z')(ht:∀a xs,Rd H a (.tup xs)->Rd H' a (.tup xs)):∀(t:OT) {v:V} {L:List Addr},(∀b∈L,H' b=H b)->Dp K Z H v t L->Dp K Z' H' v t L
 | .leaf d,_,_,_,r=>by cases r with | leaf r=>exact .leaf (r.mono hz)
 | .tup ts,_,_,hl,r=>by cases r with | tup s r=>exact .tup (s.imp (ht _ _) id) (aA8 hz ht ts hl r)
 | .lst ts,_,_,hl,r=>by
  cases r with
  | lst s r=>exact .lst (by rw[hl _ (by simp)];exact s) (aA8 hz ht ts (λb h=>hl b (by simp[h])) r)
 | .dic kvs,_,_,hl,r=>by
  cases r with
  | dic s k r1 r2=>exact .dic (by rw[hl _ (by simp)];exact s) k (r1.mono hz) (r2.mono hz)
theorem aA8 (hz:Same Z Z')(ht:∀a xs,Rd H a (.tup xs)->Rd H' a (.tup xs)):∀(ts:List OT) {vs:List V} {L:List Addr},(∀b∈L,H' b=H b)->Dps K Z H vs ts L->Dps K Z' H' vs ts L
 | [],_,_,_,r=>by cases r;exact .nil
 | t::ts,_,_,hl,r=>by
  cases r with
  | cons a b=>exact .cons (aI2 hz ht t (λb h=>hl b (by simp[h])) a) (aA8 hz ht ts (λb h=>hl b (by simp[h])) b)
end
mutual
theorem y4:∀(t:OT) {v:V} {L:List Addr},Dp K Z H v t L->∀b∈L,∃u:HM,H b=some u.ho
 | .leaf d,_,_,r=>by cases r with | leaf r=>intro b h;simp at h
 | .tup ts,_,_,r=>by cases r with | tup s r=>exact p8 ts r
 | .lst ts,_,_,r=>by
  cases r with
  | lst s r=>
   intro b h;rcases Aa1.mp h with rfl | h
   ·exact⟨.l _,s⟩
   ·exact p8 ts r b h
 | .dic kvs,_,_,r=>by
  cases r with
  | dic s k r1 r2=>
   intro b h;rw[Ad1.mp h];exact⟨.x _ _,s⟩
theorem p8:∀(ts:List OT) {vs:List V} {L:List Addr},Dps K Z H vs ts L->∀b∈L,∃u:HM,H b=some u.ho
 | [],_,_,r=>by cases r;intro b h;simp at h
 | t::ts,_,_,r=>by
  cases r with
  | cons a b=>
   intro c h;rcases Aa0.mp h with h | h
   ·exact y4 t a c h
   ·exact p8 ts b c h
end
theorem aM9 {H:Hp}{v:V}:∀{d:PyData},aV2 d=true->Rep K H v d->bJ0 K H v d
 | .none,_,r=>by cases r;rfl
 | .bool _,_,r=>by cases r;rfl
 | .int _,_,r=>by cases r;rfl
 | .str _,_,r=>by cases r;rfl
 | .list _,f,_=>by cases f
 | .dict _,f,_=>by cases f
 | .tuple ds,f,r=>by
  cases r with
  | @tup a xs _ s rs=>
   have key:∀(ds:List PyData) (xs:List V),(ds.all λd=>match d with | .int _=>true | _=>false)=true->Reps K H xs ds->∃l:List Int,ds=l.map PyData.int/\xs=l.map V.int:=λds=>by
    induction ds with
    | nil=>intro xs _ r;cases r;exact⟨[],rfl,rfl⟩
    | cons d ds ih=>
     intro xs f r;rw[List.all_cons,Bool.and_eq_true]at f;cases r with
     | cons a b=>
      obtain ⟨l,e1,e2⟩:=ih _ f.2 b;cases d with
      | int i=>cases a;exact⟨i::l,by rw[e1];rfl,by rw[e2];rfl⟩
      | _=>cases f.1
   obtain ⟨l,e1,e2⟩:=key ds xs f rs;exact⟨a,l,rfl,e1,by rw[<- e2];exact s⟩
theorem bH7 {H:Hp}:∀{kv:List (List Int×Addr×V)} {kvs:List (List Int×PyData)},kvs.all (λx=>aV2 x.2)=true->kv.map (·.1)=kvs.map (·.1)->Reps K H (kv.map λx=>V.ref x.2.1) (kvs.map λx=>PyData.tuple (x.1.map PyData.int))->Reps K H (kv.map (·.2.2)) (kvs.map (·.2))->KvF K H kv kvs
 | [],[],_,_,_,_=>.nil
 | [],_::_,_,e,_,_=>by simp at e
 | _::_,[],_,e,_,_=>by simp at e
 | x::kv,y::kvs,f,e,r1,r2=>by
  simp only[Ac2,List.cons.injEq]at e r1 r2;rw[List.all_cons,Bool.and_eq_true]at f;cases r1 with
  | cons a1 b1=>
   cases r2 with
   | cons a2 b2=>
    refine .cons ⟨e.1,?_,aM9 f.1 a2⟩ (bH7 f.2 e.2 b1 b2);have z:bJ0 K H (.ref x.2.1) (PyData.tuple (y.1.map PyData.int)):=aM9 (by simp[aV2,List.all_map,Function.comp_def]) a1
    obtain ⟨a,l,h1,h2,h3⟩:=z;cases h1
    have:y.1=l:=by
     have inj:∀(u v:List Int),u.map PyData.int=v.map PyData.int->u=v:=λu=>by
      induction u with
      | nil=>intro v h;cases v <;> simp at h ⊢
      | cons c u ih=>intro v h;cases v with
       | nil=>simp at h
       | cons c' v=>simp at h;rw[h.1,ih v h.2]
     exact inj _ _ h2
    rw[e.1,this];exact h3
mutual
/-- the tree is a datum,where one sees its lists -/
theorem aQ3 (hz:Same Z H)(ht:∀a xs,Rd H a (.tup xs)->Rd H' a (.tup xs))(hz':Same Z H'):∀(t:OT) {v:V} {L:List Addr},(∀b∈L,H' b=H b)->Dp K Z H v t L->Rep K H' v t.data
 | .leaf d,_,_,_,r=>by cases r with | leaf r=>exact r.mono hz'
 | .tup ts,_,_,hl,r=>by
  cases r with
  | tup s r=>exact .tup (s.imp (ht _ _) id) (aI1 hz ht hz' ts hl r)
 | .lst ts,_,_,hl,r=>by
  cases r with
  | lst s r=>exact .lst (SqL.of (by rw[hl _ (by simp)];exact s)) (aI1 hz ht hz' ts (λb h=>hl b (by simp[h])) r)
 | .dic kvs,_,_,hl,r=>by
  cases r with
  | dic s k r1 r2=>
   show Rep K H' _ (dD kvs)
   unfold dD;split
   ·rename_i f;exact .dic (by rw[hl _ (by simp)];exact s) (aK2 hz' (bH7 f k r1 r2)) rfl
   ·exact .ptr
theorem aI1 (hz:Same Z H)(ht:∀a xs,Rd H a (.tup xs)->Rd H' a (.tup xs))(hz':Same Z H'):∀(ts:List OT) {vs:List V} {L:List Addr},(∀b∈L,H' b=H b)->Dps K Z H vs ts L->Reps K H' vs (OT.datas ts)
 | [],_,_,_,r=>by cases r;exact .nil
 | t::ts,_,_,hl,r=>by
  cases r with
  | cons a b=>exact .cons (aQ3 hz ht hz' t (λb h=>hl b (by simp[h])) a) (aI1 hz ht hz' ts (λb h=>hl b (by simp[h])) b)
end
theorem Dp.mono {t:OT}{v:V}{L:List Addr}(r:Dp K Z H v t L)(hz:Same Z Z')(h:Same H H'):Dp K Z' H' v t L:=
 aI2 hz (λ_ _=>x8 h) t (λb hb=>by obtain ⟨xs,e⟩:=y4 t r b hb;rw[e];exact h _ _ e) r
end
inductive Sl where
 | no | val (d:PyData) | own (ds:List PyData) | bor (d:PyData) | tr (t:OT)
def Sl.os:Sl->Bool
 | .own _=>true
 | .tr _=>true
 | _=>false
def C3 (ρ:List Sl)(o:Nat->List Addr)(S:Addr->Prop)(b:Addr):Prop:=S b\/∃(i:Nat) (x:Sl),ρ[i]? = some x/\x.os=true/\b∈o i
structure Env (K:PySem.W.Frag)(S:Addr->Prop)(B H:Hp)(σ:St)(ρ:List Sl)(o:Nat->List Addr):Prop where
 len:σ.length=ρ.length
 base:Same B H
 sl:∀b,S b->∃u:HM,B b=some u.ho
 new:∀(i:Nat) (x:Sl),ρ[i]? = some x->x.os=true->∀b∈o i,B b=none
 inj:∀(i j:Nat) (x y:Sl),ρ[i]? = some x->ρ[j]? = some y->x.os=true->y.os=true->∀b,b∈o i->b∈o j->i=j
 own:∀(i:Nat) (ds:List PyData),ρ[i]? = some (.own ds)->∃p,o i=[p]/\σ[i]? = some (some (.ref p))/\∃xs,H p=some (.lst xs)/\Reps K (hid (C3 ρ o S) H) xs ds
 val:∀(i:Nat) (d:PyData),ρ[i]? = some (.val d)->∃v,σ[i]? = some (some v)/\Rep K (hid (C3 ρ o S) H) v d
 bor:∀(i:Nat) (d:PyData),ρ[i]? = some (.bor d)->∃v,σ[i]? = some (some v)/\Rep K H v d
 tr:∀(i:Nat) (t:OT),ρ[i]? = some (.tr t)->(o i).Nodup/\∃v,σ[i]? = some (some v)/\Dp K (hid (C3 ρ o S) H) H v t (o i)
section
variable {K:PySem.W.Frag}{S:Addr->Prop}{B H H':Hp}{σ:St}{ρ:List Sl}{o:Nat->List Addr}
theorem Env.grow (e:Env K S B H σ ρ o)(h:Same H H'):Env K S B H' σ ρ o:=
 ⟨e.len,L2.Same.tr e.base h,e.sl,e.new,e.inj,λi ds z=>by
  obtain ⟨p,o',a,xs,b,c⟩:=e.own i ds z;exact⟨p,o',a,xs,h _ _ b,c.mono (G1 h)⟩,λi d z=>by
  obtain ⟨v,a,b⟩:=e.val i d z;exact⟨v,a,b.mono (G1 h)⟩,λi d z=>by
  obtain ⟨v,a,b⟩:=e.bor i d z;exact⟨v,a,b.mono h⟩,λi t z=>by
  obtain ⟨n,v,a,b⟩:=e.tr i t z;exact⟨n,v,a,b.mono (G1 h) h⟩⟩
theorem Env.lists (e:Env K S B H σ ρ o):∀b,C3 ρ o S b->∃u:HM,H b=some u.ho:=λb z=>by
 rcases z with z | ⟨i,x,z,hx,hb⟩
 ·obtain ⟨xs,q⟩:=e.sl b z;exact⟨xs,e.base _ _ q⟩
 ·cases x with
  | own ds=>
   obtain ⟨p,o',_,xs,q,_⟩:=e.own i ds z;rw[o']at hb;exact⟨.l xs,by rw[Ad1.mp hb];exact q⟩
  | tr t=>
   obtain ⟨_,v,_,q⟩:=e.tr i t z;exact y4 t q b hb
  | _=>cases hx
theorem Env.imm (e:Env K S B H σ ρ o){v:V}{d:PyData}(i:imm d=true)(r:Rep K H v d):Rep K (hid (C3 ρ o S) H) v d:=
 aS7 (λ_ _ q=>U6 e.lists q) d i r
def bL7 (ρ:List Sl)(o:Nat->List Addr)(b:Addr):Prop:=∃(i:Nat) (x:Sl),ρ[i]? = some x/\x.os=true/\b∈o i
theorem Env.rebase (e:Env K S B H σ ρ o):Env K S (hid (bL7 ρ o) H) H σ ρ o/\Same B (hid (bL7 ρ o) H):=by
 have s:Same B (hid (bL7 ρ o) H):=λb x q=>
  hid_some.mpr ⟨(λ⟨i,y,z,hy,hb⟩=>by rw[e.new i y z hy b hb]at q;cases q),e.base b x q⟩
 refine⟨⟨e.len,X1,λb z=>?_,λi x z hx b hb=>?_,e.inj,e.own,e.val,e.bor,e.tr⟩,s⟩
 ·obtain ⟨xs,q⟩:=e.sl b z;exact⟨xs,s _ _ q⟩
 ·unfold hid;exact if_pos ⟨i,x,z,hx,hb⟩
end
noncomputable def vw (m:Bool)(S:Addr->Prop)(H:Hp):Hp:=match m with | true=>hid S H | false=>H
def E (K:PySem.W.Frag)(m:Bool)(t:TE)(ρ:List Sl)(d:PyData):Prop:=
 ∀(S:Addr->Prop) (B:Hp) (σ:St) (H:Hp) (o:Nat->List Addr),Env K S B H σ ρ o->∀Q:VK,(∀v H',Same H H'->Rep K (vw m (C3 ρ o S) H') v d->Q v H')->t σ H Q
def EF (K:PySem.W.Frag)(t:TE)(ρ:List Sl)(ds:List PyData):Prop:=
 ∀(S:Addr->Prop) (B:Hp) (σ:St) (H:Hp) (o:Nat->List Addr),Env K S B H σ ρ o->∀Q:VK,
  (∀p xs H',Same H H'->H p=none->H' p=some (.lst xs)->Reps K (hid (λb=>C3 ρ o S b\/b=p) H') xs ds->Q (.ref p) H')->t σ H Q
def T (K:PySem.W.Frag)(t:TT)(ρ:List Sl)(b:Bool):Prop:=
 ∀(S:Addr->Prop) (B:Hp) (σ:St) (H:Hp) (o:Nat->List Addr),Env K S B H σ ρ o->∀Q:Bool->Hp->Prop,(∀H',Same H H'->Q b H')->t σ H Q
def A (K:PySem.W.Frag)(m:Bool)(t:TA)(ρ:List Sl)(ds:List PyData):Prop:=
 ∀(S:Addr->Prop) (B:Hp) (σ:St) (H:Hp) (o:Nat->List Addr),Env K S B H σ ρ o->∀Q:List V->Hp->Prop,(∀vs H',Same H H'->Reps K (vw m (C3 ρ o S) H') vs ds->Q vs H')->t σ H Q
structure Wk (K:PySem.W.Frag)(Z:Hp)(J:It)(ds:List PyData):Prop where
 stop:∀i H,Same Z H->ds.length<=i->J.stop i H
 go:∀i H d,Same Z H->ds[i]? = some d->J.go i H
 yld:∀i H d x H',Same Z H->ds[i]? = some d->J.yld i H x H'->Same H H'/\∀S:Addr->Prop,(∀b,S b->Z b=none/\H b≠none)->Rep K (hid S H') x d
def I (K:PySem.W.Frag)(m:Bool)(wi:TI)(ρ:List Sl)(ds:List PyData):Prop:=
 ∀(S:Addr->Prop) (B:Hp) (σ:St) (H:Hp) (o:Nat->List Addr),Env K S B H σ ρ o->∀R:It->Hp->Prop,(∀J H',Same H H'->Wk K (vw m (C3 ρ o S) H') J ds->R J H')->wi σ H R
def G (K:PySem.W.Frag)(m:Bool)(g:TG)(d:PyData)(ρ ρ':List Sl):Prop:=(∀(o:Nat->List Addr) (S:Addr->Prop) (b:Addr),C3 ρ' o S b->C3 ρ o S b) /\
 ∀(S:Addr->Prop) (B:Hp) (σ:St) (H:Hp) (o:Nat->List Addr),Env K S B H σ ρ o->∀v,Rep K (vw m (C3 ρ o S) H) v d->∀Q:St->Hp->Prop,(∀σ',Env K S B H σ' ρ' o->Q σ' H)->g v σ H Q
def Gs (K:PySem.W.Frag)(m:Bool)(g:TGs)(ds:List PyData)(ρ ρ':List Sl):Prop:=(∀(o:Nat->List Addr) (S:Addr->Prop) (b:Addr),C3 ρ' o S b->C3 ρ o S b) /\
 ∀(S:Addr->Prop) (B:Hp) (σ:St) (H:Hp) (o:Nat->List Addr),Env K S B H σ ρ o->∀vs,Reps K (vw m (C3 ρ o S) H) vs ds->∀Q:St->Hp->Prop,(∀σ',Env K S B H σ' ρ' o->Q σ' H)->g vs σ H Q
structure AE where
 nx:List Sl->Prop
 rt:PyData->Prop:=λ_=>False
 rl:List PyData->Prop:=λ_=>False
 bk:List Sl->Prop:=λ_=>False
 ct:List Sl->Prop:=λ_=>False
structure Sat (K:PySem.W.Frag)(S:Addr->Prop)(B:Hp)(R:AE)(D:v9):Prop where
 nx:∀ρ' σ' H' o',Env K S B H' σ' ρ' o'->R.nx ρ'->D.nx σ' H'
 rt:∀v d H',Same B H'->Rep K (hid S H') v d->R.rt d->D.rt v H'
 rl:∀p xs ds H',Same B H'->B p=none->H' p=some (.lst xs)->Reps K (hid (λb=>S b\/b=p) H') xs ds->R.rl ds->D.rt (.ref p) H'
 bk:∀ρ' σ' H' o',Env K S B H' σ' ρ' o'->R.bk ρ'->D.bk σ' H'
 ct:∀ρ' σ' H' o',Env K S B H' σ' ρ' o'->R.ct ρ'->D.ct σ' H'
def W (K:PySem.W.Frag)(t:TS)(ρ:List Sl)(R:AE):Prop:=
 ∀(S:Addr->Prop) (B:Hp) (D:v9) (σ:St) (H:Hp) (o:Nat->List Addr),Env K S B H σ ρ o->Sat K S B R D->t D σ H
section
variable {K:PySem.W.Frag}{ρ ρ' ρ1:List Sl}{m:Bool}{t ta tb tc:TE}{d d':PyData}{ds es:List PyData}
theorem u4 {S:Addr->Prop}{H:Hp}:Same (vw m S H) H:=by cases m;exact L2.Same.rf _;exact X1
theorem aH3 {S:Addr->Prop}{H H':Hp}(h:Same H H'):Same (vw m S H) (vw m S H'):=by cases m;exact h;exact G1 h
theorem E.bor (h:E K true t ρ d):E K m t ρ d:=λS B σ H o I Q q=>h S B σ H o I Q λv H' s r=>q v H' s (by cases m;exact r.mono X1;exact r)
theorem E.imm (h:E K m t ρ d)(i:imm d=true:=by rfl):E K true t ρ d:=λS B σ H o I Q q=>h S B σ H o I Q λv H' s r=>q v H' s ((I.grow s).imm i (r.mono u4))
theorem EF.e' (h:EF K t ρ ds):E K m t ρ (.list ds):=E.bor λS B σ H o I Q q=>h S B σ H o I Q λp xs H' s n e r=>q _ _ s
 (.lst (SqL.of (hid_some.mpr ⟨(λz=>by obtain ⟨ys,y⟩:=I.lists p z;rw[n]at y;cases y),e⟩)) (r.mono (D1 (L2.Same.rf _) λb z _=>.inl z)))
theorem A1 {i:Nat}(h:ρ[i]? = some (.val d)):E K m (K8 i) ρ d:=E.bor λS B σ H o I Q q=>by
 obtain ⟨v,a,b⟩:=I.val i d h;exact⟨v,a,q v H (L2.Same.rf _) b⟩
theorem X8 {i:Nat}(h:ρ[i]? = some (.own ds)):E K false (K8 i) ρ (.list ds):=λS B σ H o I Q q=>by
 obtain ⟨p,o',a,xs,b,c⟩:=I.own i ds h;exact⟨_,a,q _ H (L2.Same.rf _) (.lst (SqL.of b) (c.mono X1))⟩
theorem aT1 {v:V}(h:∀H,Rep K H v d):E K m (tC v) ρ d:=λS B σ H o I Q q=>q v H (L2.Same.rf _) (h _)
theorem B1 {i:Int}:E K m (tC (.int i)) ρ (.int i):=aT1 λ_=>.int i
theorem bE9 {b:Bool}:E K m (tC (.bl b)) ρ (.bool b):=aT1 λ_=>.bl b
theorem bP8:E K m (tC .non) ρ .none:=aT1 λ_=>.non
theorem Z7 {x:Str}:E K m (tC (.str x)) ρ (.str x):=aT1 λ_=>.str x
theorem aO6 {r:R2}(m1 m2:Bool)(ha:E K m1 ta ρ d)(hb:E K m2 tb ρ d'){f:PyData}
  (hr:∀(S:Addr->Prop) (H:Hp) (x y:V) (Q:VK),(∀b,S b->∃u:HM,H b=some u.ho)->Rep K (vw m1 S H) x d->Rep K (vw m2 S H) y d'->(∀v H',Same H H'->Rep K (vw m S H') v f->Q v H')->r x y H Q):E K m (tOp r ta tb) ρ f:=
 λS B σ H o I Q q=>ha S B σ H o I _ λx H1 s1 rx=>hb S B σ H1 o (I.grow s1) _ λy H2 s2 ry=>
  hr (C3 ρ o S) H2 x y Q ((I.grow s1).grow s2).lists (rx.mono (aH3 s2)) ry λv H' s r=>q v H' (L2.Same.tr s1 (L2.Same.tr s2 s)) r
theorem aO5 {r:R2}{i j:Int}{f:PyData}(ha:E K false ta ρ (.int i))(hb:E K false tb ρ (.int j))(hr:∀(H:Hp) (Q:VK),(∀v,(∀H,Rep K H v f)->Q v H)->r (.int i) (.int j) H Q):E K m (tOp r ta tb) ρ f:=
 aO6 false false ha hb λS H x y Q _ rx ry q=>by
  cases rx;cases ry
  exact hr H Q λv r=>q v H (L2.Same.rf _) (r _)
theorem Q1 {g:Int->Int->Int}{i j:Int}(ha:E K false ta ρ (.int i))(hb:E K false tb ρ (.int j)):E K m (tOp (rI0 λi j=>.int (g i j)) ta tb) ρ (.int (g i j)):=
 aO5 ha hb λH Q q=>⟨i,j,rfl,rfl,q _ λ_=>.int _⟩
theorem e_i {C:Int->Int->Prop}{g:Int->Int->Int}{i j:Int}(ha:E K false ta ρ (.int i))(hb:E K false tb ρ (.int j))(hc:C i j):E K m (tOp (rI C λi j=>.int (g i j)) ta tb) ρ (.int (g i j)):=
 aO5 ha hb λH Q q=>⟨i,j,rfl,rfl,hc,q _ λ_=>.int _⟩
theorem y3 {g:Int->Int->Bool}{i j:Int}(ha:E K false ta ρ (.int i))(hb:E K false tb ρ (.int j)):E K m (tOp (rI0 λi j=>.bl (g i j)) ta tb) ρ (.bool (g i j)):=
 aO5 ha hb λH Q q=>⟨i,j,rfl,rfl,q _ λ_=>.bl _⟩
end
end LV
namespace LV
open PySem L2
section
variable {K:PySem.W.Frag}{ρ ρ' ρ1:List Sl}{m m':Bool}{t ta tb tc:TE}{d d':PyData}{ds es:List PyData}
theorem bA6 {H:Hp}{xs:List V}{i:Int}(r:Reps K H xs ds)(e:atI ds i=some d):∃v,atI xs i=some v/\Rep K H v d:=by
 unfold atI at e ⊢;rw[r.length];cases h:ixN ds.length i with
 | none=>rw[h]at e;cases e
 | some j=>rw[h]at e;exact r.get' (by simpa using e)
def sq:PyData->Option (List PyData)
 | .list ds=>some ds
 | .tuple ds=>some ds
 | _=>none
theorem h8 {i:Int}(ha:E K m ta ρ d)(hb:E K false tb ρ (.int i))(hs:sq d=some ds)(h:atI ds i=some d'):E K m (tOp (rIx K) ta tb) ρ d':=
 aO6 m false ha hb λS H x y Q _ rx ry q=>by
  cases ry;cases rx with
  | lst s r=>
   cases hs
   obtain ⟨v,h1,h2⟩:=bA6 r h;exact .inl ⟨_,_,i,v,rfl,rfl,D8 u4 s,h1,q v H (L2.Same.rf _) h2⟩
  | tup s r=>
   cases hs
   obtain ⟨v,h1,h2⟩:=bA6 r h;exact .inr (.inl ⟨_,_,i,v,rfl,rfl,O4 u4 s,h1,q v H (L2.Same.rf _) h2⟩)
  | _=>cases hs
theorem W0 {α:Type}{xs:List α}{i:Int}{v:α}(n:Nat)(hn:i=n)(h:xs[n]? = some v):atI xs i=some v:=by
 subst hn;unfold atI ixN
 have:=(Aa9.mp h).1
 rw[if_pos (by omega),if_pos (by omega)]
 simpa using h
theorem B0:A K m i5 ρ []:=λS B σ H o I Q q=>q [] H (L2.Same.rf _) .nil
theorem A3 {tr:TA}(ha:E K m ta ρ d)(hr:A K m tr ρ ds):A K m (G5 ta tr) ρ (d::ds):=λS B σ H o I Q q=>
 ha S B σ H o I _ λx H1 s1 rx=>hr S B σ H1 o (I.grow s1) _ λxs H2 s2 rs=>q _ H2 (L2.Same.tr s1 s2) (.cons (rx.mono (aH3 s2)) rs)
theorem F4 {H:Hp}{p:Addr}{o:HO}(h:H p=none):Same H (upd H p o):=λb x e=>by
 have:b≠p:=λz=>by rw[z,h]at e;cases e
 rw[B2 this];exact e
theorem aW7 {t:TA}(h:A K m t ρ ds)(hl:ds.length<=sizeLine:=by first | decide | (unfold PySem.sizeLine;simp)):E K m (bR6 t) ρ (.tuple ds):=λS B σ H o I Q q=>h S B σ H o I _ λxs H1 s1 rs=>⟨by rw[rs.length];exact hl,λp hp=>by
 have g:=F4 (o:=.tup xs) hp
 refine q _ _ (L2.Same.tr s1 g) (.tup (.inl (.inl ?_)) (rs.mono (aH3 g)));cases m with
 | false=>exact C7
 | true=>exact hid_some.mpr ⟨(λz=>by obtain ⟨ys,y⟩:=(I.grow s1).lists p z;rw[hp]at y;cases y),C7⟩⟩
theorem aE5 {S:Addr->Prop}{H:Hp}{p:Addr}{xs ys:List V}(hs:∀b,S b->∃u:HM,H b=some u.ho)(hp:H p=none)(r:Reps K (hid S H) xs ds):Reps K (hid (λb=>S b\/b=p) (upd H p (.lst ys))) xs ds:=
 r.mono (D1 (F4 hp) λb z n=>z.elim id λe=>absurd (by rw[e];exact hp) n)
theorem M6 {t:TA}(h:A K true t ρ ds)(hl:ds.length<=sizeLine:=by first | decide | (unfold PySem.sizeLine;simp)):EF K (cB5 t) ρ ds:=λS B σ H o I Q q=>h S B σ H o I _ λxs H1 s1 rs=>⟨by rw[rs.length];exact hl,λp hp=>
 q p xs _ (L2.Same.tr s1 (F4 hp)) (by cases e:H p with | none=>rfl | some x=>rw[s1 _ _ e]at hp;cases hp) C7 (aE5 (I.grow s1).lists hp rs)⟩
def spV (K:PySem.W.Frag)(pre:List PyData->PyData->Prop):Sp:=λvs H Q _=>∃(ds:List PyData) (S:Addr->Prop) (d:PyData),(∀b,S b->∃u:HM,H b=some u.ho)/\Reps K (hid S H) vs ds/\pre ds d /\
 ∀v H',Same H H'->Rep K (hid S H') v d->Q v H'
def spL (K:PySem.W.Frag)(pre:List PyData->List PyData->Prop):Sp:=λvs H Q _=>∃(ds:List PyData) (S:Addr->Prop) (es:List PyData),(∀b,S b->∃u:HM,H b=some u.ho)/\Reps K (hid S H) vs ds/\pre ds es /\
 ∀p xs H',Same H H'->H p=none->H' p=some (.lst xs)->Reps K (hid (λb=>S b\/b=p) H') xs es->Q (.ref p) H'
theorem bH4 {H:Hp}:hid (λ_=>False) H=H:=by funext b;unfold hid;exact if_neg id
theorem M0 {pre:List PyData->PyData->Prop}{t:TA}{X:XK}(ha:A K true t ρ ds)(hp:pre ds d):E K m (a3 (spV K pre) [] X t) ρ d:=E.bor λS B σ H o I Q q=>
 ha S B σ H o I _ λvs H1 s1 rs=>⟨ds,C3 ρ o S,d,(I.grow s1).lists,by rw[List.append_nil];exact rs,hp,λv H' s r=>q v H' (L2.Same.tr s1 s) r⟩
theorem Y0 {H H1:Hp}{p:Addr}(s:Same H H1)(h:H1 p=none):H p=none:=by
 cases e:H p with
 | none=>rfl
 | some x=>rw[s _ _ e]at h;cases h
theorem U7 {pre:List PyData->List PyData->Prop}{t:TA}{X:XK}(ha:A K true t ρ ds)(hp:pre ds es):EF K (a3 (spL K pre) [] X t) ρ es:=λS B σ H o I Q q=>
 ha S B σ H o I _ λvs H1 s1 rs=>⟨ds,C3 ρ o S,es,(I.grow s1).lists,by rw[List.append_nil];exact rs,hp,λp xs H' s n e r=>q p xs H' (L2.Same.tr s1 s) (Y0 s1 n) e r⟩
theorem H9 {b:Bool}(h:E K false t ρ (.bool b)):T K (aW2 t) ρ b:=λS B σ H o I Q q=>h S B σ H o I _ λv H' s r=>by cases r;exact⟨b,rfl,q H' s⟩
theorem t_b {b:Bool}(h:E K false t ρ (.bool b)):T K (tB t) ρ b:=λS B σ H o I Q q=>h S B σ H o I _ λv H' s r=>by cases r;exact⟨b,rfl,q H' s⟩
theorem aP6 {u w:TT}{a b:Bool}(h:T K u ρ a)(h':a=false->T K w ρ b):T K (tOr u w) ρ (a||b):=λS B σ H o I Q q=>h S B σ H o I _ λH1 s1=>by
 cases a with
 | true=>exact q H1 s1
 | false=>exact h' rfl S B σ H1 o (I.grow s1) _ λH2 s2=>q H2 (L2.Same.tr s1 s2)
theorem aD0 {u:TT}{a:Bool}(h:T K u ρ a):T K (bZ0 u) ρ (!a):=λS B σ H o I Q q=>h S B σ H o I _ q
theorem aW0 {a:Bool}{b:Bool}(h:E K false ta ρ (.bool a))(h':a=true->E K false tb ρ (.bool b)):E K m (bQ3 ta tb) ρ (.bool (a&&b)):=E.bor (E.imm (m:=false) λS B σ H o I Q q=>h S B σ H o I _ λv H1 s1 r=>by
 cases r
 refine⟨a,rfl,?_⟩;cases a with
 | false=>exact q _ H1 s1 (.bl _)
 | true=>exact h' rfl S B σ H1 o (I.grow s1) _ λv H2 s2 r=>q v H2 (L2.Same.tr s1 s2) r)
theorem cE1 {a:Bool}{b:Bool}(h:E K false ta ρ (.bool a))(h':a=false->E K false tb ρ (.bool b)):E K m (bZ4 ta tb) ρ (.bool (a||b)):=E.bor (E.imm (m:=false) λS B σ H o I Q q=>h S B σ H o I _ λv H1 s1 r=>by
 cases r
 refine⟨a,rfl,?_⟩;cases a with
 | true=>exact q _ H1 s1 (.bl _)
 | false=>exact h' rfl S B σ H1 o (I.grow s1) _ λv H2 s2 r=>q v H2 (L2.Same.tr s1 s2) r)
theorem cB1 {a:Bool}(h:E K false ta ρ (.bool a)):E K m (bQ4 ta) ρ (.bool (!a)):=E.bor (E.imm (m:=false) λS B σ H o I Q q=>h S B σ H o I _ λv H1 s1 r=>by
 cases r
 exact⟨a,rfl,q _ H1 s1 (.bl _)⟩)
theorem bL9 {Z:Hp}{a:Addr}{xs:List V}(s:SqL K Z a xs)(r:Reps K Z xs ds):Wk K Z (Itl K a) ds where
 stop:=λi H h l=>⟨xs,D8 h s,by rw[r.length];exact l⟩
 go:=λi H d h e=>by
  obtain ⟨v,h1,_⟩:=r.get' e;exact⟨xs,v,D8 h s,h1⟩
 yld:=λi H d x H' h e y=>by
  obtain ⟨rfl,y⟩:=y
  have:=y xs (D8 h s)
  obtain ⟨d',h1,h2⟩:=r.get this;rw[e]at h1;cases h1;refine⟨L2.Same.rf _,λS hS=>h2.mono λb o q=>hid_some.mpr ⟨λz=>?_,h b o q⟩⟩
  rw[(hS b z).1]at q;cases q
def L5 (lo:Int)(n:Nat):List PyData:=(List.range n).map λ(i:Nat)=>PyData.int (lo+(i:Int))
theorem bU6 {Z:Hp}{lo:Int}{n:Nat}:Wk K Z (Itr lo n) (L5 lo n) where
 stop:=λi H h l=>by
  have:n<=i:=by simpa[L5]using l
  exact this
 go:=λi H d h e=>by
  have:=(Aa9.mp e).1
  have:i<n:=by simpa[L5]using this
  exact this
 yld:=λi H d x H' h e y=>by
  obtain ⟨rfl,rfl⟩:=y
  have:d=.int (lo+i):=by
   have hi:=(Aa9.mp e).1
   have hn:i<n:=by simpa[L5]using hi
   unfold L5 at e;rw[Aa8,List.getElem?_range hn]at e;exact(Ab3 e).symm
  subst this;exact⟨L2.Same.rf _,λS hS=>.int _⟩
theorem b8 (h:E K m t ρ (.list ds)):I K m (bO3 K t) ρ ds:=λS B σ H o J R q=>h S B σ H o J _ λv H1 s1 r=>by
 cases r with
 | lst s r=>exact⟨_,rfl,⟨_,D8 u4 s⟩,q _ H1 s1 (bL9 s r)⟩
theorem j6 {t:TA}{j:Int}(h:A K false t ρ [.int j])(h1 : -(2^62)<=j)(h2:j<2^62):I K m (bQ1 t) ρ (L5 0 j.toNat):=λS B σ H o J R q=>h S B σ H o J _ λvs H1 s1 r=>by
 cases r with
 | cons a b=>cases a;cases b;exact⟨j,rfl,h1,h2,q _ H1 s1 bU6⟩
theorem m9 {o:Nat->List Addr}{S:Addr->Prop}{i:Nat}{x:Sl}(hx:x.os=false){b:Addr}(z:C3 (ρ.set i x) o S b):C3 ρ o S b:=by
 rcases z with z | ⟨j,y,h,hy,e⟩
 ·exact .inl z
 ·refine .inr ⟨j,y,?_,hy,e⟩;rw[List.getElem?_set]at h;by_cases c:i=j
  ·rw[if_pos c]at h;split at h
   ·rw[<- Ab3 h,hx]at hy;cases hy
   ·cases h
  ·rw[if_neg c]at h;exact h
def slot (m:Bool)(d:PyData):Sl:=match m with | true=>.val d | false=>.bor d
theorem Env.set {S:Addr->Prop}{B H:Hp}{σ:St}{o:Nat->List Addr}(I:Env K S B H σ ρ o)(i:Nat){v:V}(r:Rep K (vw m (C3 ρ o S) H) v d):Env K S B H (σ.set i (some v)) (ρ.set i (slot m d)) o:=by
 have nx:(slot m d).os=false:=by cases m <;> rfl
 have nd:∀{x:Sl},x.os=true->x≠slot m d:=λ{x} h e=>by rw[e,nx]at h;cases h
 have at_:∀{j:Nat} {x:Sl},x≠slot m d->(ρ.set i (slot m d))[j]? = some x->i≠j/\ρ[j]? = some x:=λ{j x} hx h=>by
  rw[List.getElem?_set]at h;by_cases c:i=j
  ·rw[if_pos c]at h;split at h
   ·exact absurd (Ab3 h).symm hx
   ·cases h
  ·rw[if_neg c]at h;exact⟨c,h⟩
 have g:Same (hid (C3 ρ o S) H) (hid (C3 (ρ.set i (slot m d)) o S) H):=D1 (L2.Same.rf _) λb z _=>m9 nx z
 refine⟨by simp[I.len],I.base,I.sl,λj x h hx=>I.new j x (at_ (nd hx) h).2 hx,λj k x y h h' hx hy=>I.inj j k x y (at_ (nd hx) h).2 (at_ (nd hy) h').2 hx hy,λj ds h=>?_,λj d' h=>?_,λj d' h=>?_,λj t h=>?_⟩
 ·obtain ⟨c,h⟩:=at_ (nd rfl) h;obtain ⟨p,o',a,xs,b,r'⟩:=I.own j ds h;exact⟨p,o',by rw[Ac5 c];exact a,xs,b,r'.mono g⟩
 ·by_cases c:i=j
  ·subst c;have hl:i<ρ.length:=by
    have:=(Aa9.mp h).1
    simpa using this
   rw[List.getElem?_set_self (by simpa using hl)]at h
   cases m with
   | false=>simp[slot]at h
   | true=>
    simp[slot]at h;subst h
    exact⟨v,List.getElem?_set_self (by rw[I.len];exact hl),r.mono g⟩
  ·rw[Ac5 c]at h;obtain ⟨u,a,b⟩:=I.val j d' h;exact⟨u,by rw[Ac5 c];exact a,b.mono g⟩
 ·by_cases c:i=j
  ·subst c;have hl:i<ρ.length:=by
    have:=(Aa9.mp h).1
    simpa using this
   rw[List.getElem?_set_self (by simpa using hl)]at h
   cases m with
   | true=>simp[slot]at h
   | false=>
    simp[slot]at h;subst h
    exact⟨v,List.getElem?_set_self (by rw[I.len];exact hl),r⟩
  ·rw[Ac5 c]at h;obtain ⟨u,a,b⟩:=I.bor j d' h;exact⟨u,by rw[Ac5 c];exact a,b⟩
 ·obtain ⟨c,h⟩:=at_ (nd rfl) h;obtain ⟨n,u,a,b⟩:=I.tr j t h;exact⟨n,u,by rw[Ac5 c];exact a,b.mono g (L2.Same.rf _)⟩
theorem bM9:(slot m d).os=false:=by cases m <;> rfl
theorem E4 {i:Nat}:G K m (R3 i) d ρ (ρ.set i (slot m d)):=⟨λo S b z=>m9 bM9 z,λS B σ H o I v r Q q=>q _ (I.set i r)⟩
theorem bE0:Gs K m aX7 [] ρ ρ:=⟨λ_ _ _ z=>z,λS B σ H o I vs r Q q=>by cases r;exact⟨rfl,q σ I⟩⟩
theorem bT8 {o:Nat->List Addr}{S:Addr->Prop}{H:Hp}(h:∀(o:Nat->List Addr) (S:Addr->Prop) (b:Addr),C3 ρ' o S b->C3 ρ o S b):Same (vw m (C3 ρ o S) H) (vw m (C3 ρ' o S) H):=by
 cases m with
 | false=>exact L2.Same.rf _
 | true=>exact D1 (L2.Same.rf _) λb z _=>h o S b z
theorem x0 {g:TG}{gs:TGs}(h:G K m g d ρ ρ1)(h':Gs K m gs ds ρ1 ρ'):Gs K m (aA3 g gs) (d::ds) ρ ρ':=⟨λo S b z=>h.1 o S b (h'.1 o S b z),λS B σ H o I vs r Q q=>by
 cases r with
 | cons a b=>exact⟨_,_,rfl,h.2 S B σ H o I _ a _ λσ1 I1=>h'.2 S B σ1 H o I1 _ (b.mono (bT8 h.1)) _ q⟩⟩
theorem bP5 {gs:TGs}{n:Nat}(h:Gs K m gs ds ρ ρ')(hn:ds.length=n:=by rfl):G K m (bL2 K n gs) (.tuple ds) ρ ρ':=⟨h.1,λS B σ H o I v r Q q=>by
 cases r with
 | tup s r=>exact⟨_,_,rfl,O4 u4 s,by rw[r.length];exact hn,h.2 S B σ H o I _ r _ q⟩⟩
theorem B6 {t u:TS}{R:AE}(h:W K t ρ {R with nx:=λρ'=>W K u ρ' R}):W K (bR5 t u) ρ R:=λS B D σ H o I s=>
 h S B {D with nx:=u D} σ H o I ⟨λρ' σ' H' o' I' w=>w S B D σ' H' o' I' s,s.rt,s.rl,s.bk,s.ct⟩
theorem G9 {R:AE}(h:R.nx ρ):W K bR0 ρ R:=λS B D σ H o I s=>s.nx ρ σ H o I h
theorem cD1 {g:TG}{R:AE}(h:E K m t ρ d)(hg:G K m g d ρ ρ')(hn:R.nx ρ'):W K (aM1 t g) ρ R:=λS B D σ H o I s=>
 h S B σ H o I _ λv H' s' r=>hg.2 S B σ H' o (I.grow s') v r _ λσ' I'=>s.nx _ σ' H' o I' hn
theorem u9 {i:Nat}{R:AE}(h:E K true t ρ d)(hn:R.nx (ρ.set i (.val d))):W K (aM1 t (R3 i)) ρ R:=cD1 (ρ' := ρ.set i (.val d)) h E4 hn
theorem bG0 {R:AE}(h:E K m t ρ d)(hn:R.nx ρ):W K (Z6 t) ρ R:=λS B D σ H o I s=>h S B σ H o I _ λv H' s' r=>s.nx _ σ H' o (I.grow s') hn
theorem K5 {R:AE}(h:E K true t ρ d)(hn:R.rt d):W K (bK2 t) ρ R:=λS B D σ H o I s=>
 h S B σ H o I _ λv H' s' r=>s.rt v d H' (L2.Same.tr I.base s') (r.mono (D1 (L2.Same.rf _) λb z _=>.inl z)) hn
theorem aJ5 {R:AE}(h:EF K t ρ ds)(hn:R.rl ds):W K (bK2 t) ρ R:=λS B D σ H o I s=>
 h S B σ H o I _ λp xs H' s' n e r=>s.rl p xs ds H' (L2.Same.tr I.base s') (Y0 I.base n) e (r.mono (D1 (L2.Same.rf _) λb z _=>z.imp .inl id)) hn
theorem bB1 {i:Nat}{R:AE}(h:ρ[i]? = some (.own ds))(hn:R.rl ds):W K (bK2 (K8 i)) ρ R:=λS B D σ H o I s=>by
 obtain ⟨p,hp,a,xs,b,c⟩:=I.own i ds h;exact⟨_,a,s.rl _ xs ds H I.base (I.new i _ h rfl _ (by rw[hp];simp)) b (c.mono (D1 (L2.Same.rf _) λb z _=>z.elim .inl λe=>.inr ⟨i,_,h,rfl,by rw[hp,e];simp⟩)) hn⟩
theorem c0 {c:TT}{t u:TS}{b:Bool}{R:AE}(h:T K c ρ b)(h1:b=true->W K t ρ R)(h2:b=false->W K u ρ R):W K (aX1 c t u) ρ R:=λS B D σ H o I s=>h S B σ H o I _ λH' s'=>by
 cases b with
 | true=>exact h1 rfl S B D σ H' o (I.grow s') s
 | false=>exact h2 rfl S B D σ H' o (I.grow s') s
theorem W.weak {t:TS}{R R':AE}(h:W K t ρ R)(h1:∀ρ,R.nx ρ->R'.nx ρ)(h2:∀d,R.rt d->R'.rt d)(h3:∀d,R.rl d->R'.rl d)(h4:∀ρ,R.bk ρ->R'.bk ρ)(h5:∀ρ,R.ct ρ->R'.ct ρ):W K t ρ R':=λS B D σ H o I s=>
 h S B D σ H o I ⟨λρ' σ' H' o' I' w=>s.nx ρ' σ' H' o' I' (h1 _ w),λv d H' a b c=>s.rt v d H' a b (h2 _ c),λp xs ds H' a b c e w=>s.rl p xs ds H' a b c e (h3 _ w),λρ' σ' H' o' I' w=>s.bk ρ' σ' H' o' I' (h4 _ w),λρ' σ' H' o' I' w=>s.ct ρ' σ' H' o' I' (h5 _ w)⟩
def aQ1 (o:Nat->List Addr)(i:Nat)(L:List Addr)(j:Nat):List Addr:=if j=i then L else o j
theorem N7 {o:Nat->List Addr}{i:Nat}{L:List Addr}:aQ1 o i L i=L:=if_pos rfl
theorem P4 {o:Nat->List Addr}{i j:Nat}{L:List Addr}(h:i≠j):aQ1 o i L j=o j:=if_neg λz=>h z.symm
def Holds (K:PySem.W.Frag)(Z H:Hp)(v:V)(x:Sl)(L:List Addr):Prop:=
 (∃ds p xs,x=.own ds/\L=[p]/\v=.ref p/\H p=some (.lst xs)/\Reps K Z xs ds)\/∃t,x=.tr t/\L.Nodup/\Dp K Z H v t L
theorem Holds.os {Z H:Hp}{v:V}{x:Sl}{L:List Addr}(h:Holds K Z H v x L):x.os=true:=by
 rcases h with ⟨ds,p,xs,rfl,_⟩ | ⟨t,rfl,_⟩ <;> rfl
def bL4 (ρ:List Sl)(o:Nat->List Addr)(i:Nat)(b:Addr):Prop:=∃y,ρ[i]? = some y/\y.os=true/\b∈o i
theorem Env.put {S:Addr->Prop}{B H H':Hp}{σ:St}{o:Nat->List Addr}{v:V}{x:Sl}{L:List Addr}(I:Env K S B H σ ρ o)(i:Nat)(hi:i<ρ.length)(D:Addr->Prop)(hD:∀b,D b->bL4 ρ o i b)
  (hH:∀b y,H b=some y->¬D b->H' b=some y) (hL:∀b∈L,bL4 ρ o i b\/H b=none) (hx:Holds K (hid (λb=>C3 ρ o S b\/b∈L) H') H' v x L)
  (nb:(∀b,¬D b)\/∀(j:Nat) (d:PyData),ρ[j]?≠some (Sl.bor d)):Env K S B H' (σ.set i (some v)) (ρ.set i x) (aQ1 o i L):=by
 have hos:=hx.os
 have at_:∀{j:Nat} {y:Sl},i≠j->(ρ.set i x)[j]? = some y->ρ[j]? = some y:=λ{j y} c h=>by rw[Ac5 c]at h;exact h
 have self:(ρ.set i x)[i]? = some x:=List.getElem?_set_self hi
 have sub:∀b,C3 (ρ.set i x) (aQ1 o i L) S b->C3 ρ o S b\/b∈L:=λb z=>by
  rcases z with z | ⟨j,y,h,hy,e'⟩
  ·exact .inl (.inl z)
  ·by_cases c:i=j
   ·subst c;rw[N7]at e';exact .inr e'
   ·rw[P4 c]at e';exact .inl (.inr ⟨j,y,at_ c h,hy,e'⟩)
 have own_:∀b,bL4 ρ o i b->C3 ρ o S b:=λb ⟨y,h1,h2,h3⟩=>.inr ⟨i,y,h1,h2,h3⟩
 have g:Same (hid (C3 ρ o S) H) (hid (C3 (ρ.set i x) (aQ1 o i L) S) H'):=λb y q=>by
  obtain ⟨a,q⟩:=hid_some.mp q;refine hid_some.mpr ⟨λz=>?_,hH b y q λz=>a (own_ b (hD b z))⟩
  rcases sub b z with z | z
  ·exact a z
  ·rcases hL b z with z | z
   ·exact a (own_ b z)
   ·rw[z]at q;cases q
 have ht:∀a ys,Rd H a (.tup ys)->Rd H' a (.tup ys):=λa ys r=>by
  have n:¬D a:=λz=>by
   obtain ⟨zs,e⟩:=I.lists a (own_ a (hD a z));rcases r with r | ⟨o,r⟩ <;> rw[e]at r <;> replace r:=Ab3 r
   ·exact HM.nt r
   ·exact HM.nf r
  rcases r with r | ⟨o,r⟩
  ·exact .inl (hH _ _ r n)
  ·exact .inr ⟨o,hH _ _ r n⟩
 have far:∀{j:Nat} {y:Sl},i≠j->ρ[j]? = some y->y.os=true->∀b∈o j,¬D b:=λ{j y} c h hy b hb z=>by
  obtain ⟨w,h1,h2,h3⟩:=hD b z;exact c (I.inj i j w y h1 h h2 hy b h3 hb)
 have kept:∀{j:Nat} {y:Sl},i≠j->ρ[j]? = some y->y.os=true->∀b∈o j,H' b=H b:=λ{j y} c h hy b hb=>by
  obtain ⟨zs,e⟩:=I.lists b (.inr ⟨j,y,h,hy,hb⟩);rw[e];exact hH _ _ e (far c h hy b hb)
 have notL:∀{j:Nat} {y:Sl},i≠j->ρ[j]? = some y->y.os=true->∀b∈o j,b∉L:=λ{j y} c h hy b hb z=>by
  rcases hL b z with ⟨w,h1,h2,h3⟩ | z
  ·exact c (I.inj i j w y h1 h h2 hy b h3 hb)
  ·obtain ⟨zs,e⟩:=I.lists b (.inr ⟨j,y,h,hy,hb⟩);rw[z]at e;cases e
 have base:Same B H':=λb y q=>hH b y (I.base b y q) λz=>by
  obtain ⟨w,h1,h2,h3⟩:=hD b z;rw[I.new i w h1 h2 b h3]at q;cases q
 refine⟨by simp[I.len],base,I.sl,λj y h hy b hb=>?_,λj k y z h h' hy hz b hb hb'=>?_,λj es h=>?_,λj d' h=>?_,λj d' h=>?_,λj t h=>?_⟩
 ·by_cases c:i=j
  ·subst c;rw[N7]at hb;rcases hL b hb with ⟨w,h1,h2,h3⟩ | z
   ·exact I.new i w h1 h2 b h3
   ·exact Y0 I.base z
  ·rw[P4 c]at hb;exact I.new j y (at_ c h) hy b hb
 ·by_cases c:i=j
  ·subst c;by_cases c':i=k
   ·exact c'
   ·rw[N7]at hb;rw[P4 c']at hb';exact absurd hb (notL c' (at_ c' h') hz b hb')
  ·by_cases c':i=k
   ·subst c';rw[N7]at hb';rw[P4 c]at hb;exact absurd hb' (notL c (at_ c h) hy b hb)
   ·rw[P4 c]at hb;rw[P4 c']at hb';exact I.inj j k y z (at_ c h) (at_ c' h') hy hz b hb hb'
 ·by_cases c:i=j
  ·subst c;rw[self]at h;cases h;rw[N7];rcases hx with ⟨ds,p,xs,e,h2,h3,h4,h5⟩ | ⟨t,e,_⟩
   ·cases e
    exact⟨p,h2,by rw[List.getElem?_set_self (by rw[I.len];exact hi),h3],xs,h4,h5.mono (D1 (L2.Same.rf _) λb z _=>sub b z)⟩
   ·cases e
  ·rw[P4 c];obtain ⟨p,o',a,ys,b,r'⟩:=I.own j es (at_ c h);exact⟨p,o',by rw[Ac5 c];exact a,ys,by rw[kept c (at_ c h) rfl p (by rw[o'];simp)];exact b,r'.mono g⟩
 ·by_cases c:i=j
  ·subst c;rw[self]at h;cases h;cases hos
  ·obtain ⟨u,a,b⟩:=I.val j d' (at_ c h);exact⟨u,by rw[Ac5 c];exact a,b.mono g⟩
 ·by_cases c:i=j
  ·subst c;rw[self]at h;cases h;cases hos
  ·rcases nb with nb | nb
   ·obtain ⟨u,a,b⟩:=I.bor j d' (at_ c h);exact⟨u,by rw[Ac5 c];exact a,b.mono λb y q=>hH b y q (nb b)⟩
   ·exact absurd (at_ c h) (nb j d')
 ·by_cases c:i=j
  ·subst c;rw[self]at h;cases h;rw[N7];rcases hx with ⟨ds,p,xs,e,_⟩ | ⟨t',e,h2,h3⟩
   ·cases e
   ·cases e
    exact⟨h2,v,List.getElem?_set_self (by rw[I.len];exact hi),h3.mono (D1 (L2.Same.rf _) λb z _=>sub b z) (L2.Same.rf _)⟩
  ·rw[P4 c];obtain ⟨n,u,a,b⟩:=I.tr j t (at_ c h);exact⟨n,u,by rw[Ac5 c];exact a,aI2 g ht t (kept c (at_ c h) rfl) b⟩
theorem Env.setF {S:Addr->Prop}{B H H':Hp}{σ:St}{o:Nat->List Addr}{p:Addr}{xs:List V}(I:Env K S B H σ ρ o)(i:Nat)(s:Same H H')(n:H p=none)(e:H' p=some (.lst xs))(r:Reps K (hid (λb=>C3 ρ o S b\/b=p) H') xs ds)(hi:i<ρ.length) :
  Env K S B H' (σ.set i (some (.ref p))) (ρ.set i (.own ds)) (aQ1 o i [p]):=
 I.put i hi (λ_=>False) (λ_ z=>z.elim) (λb y q _=>s b y q) (λb z=>.inr (by rw[Ad1.mp z];exact n)) (.inl ⟨ds,p,xs,rfl,rfl,rfl,e,r.mono (D1 (L2.Same.rf _) λb z _=>z.imp id λz=>Ad1.mp z)⟩) (.inl λ_ z=>z)
theorem bA0 {α:Type}{l:List α}{i:Nat}{a:α}(h:l[i]? = some a):l.set i a=l:=by
 obtain ⟨h1,h2⟩:=Aa9.mp h;rw[<- h2];exact List.set_getElem_self h1
theorem F6 {i:Nat}{R:AE}(h:EF K t ρ ds)(hn:R.nx (ρ.set i (.own ds)))(hi:i<ρ.length:=by first | decide | (simp;done) | (simp[LV.sl0];done)):W K (aM1 t (R3 i)) ρ R:=λS B D σ H o I s=>
 h S B σ H o I _ λp xs H' s' n e r=>s.nx _ _ H' _ (I.setF i s' n e r hi) hn
theorem Env.upd {S:Addr->Prop}{B H:Hp}{σ:St}{o:Nat->List Addr}{i:Nat}{p:Addr}{xs:List V}(I:Env K S B H σ ρ o)(h:ρ[i]? = some (.own ds))(hp:o i=[p])(r:Reps K (hid (C3 ρ o S) H) xs es)(nb:∀(j:Nat) (d:PyData),ρ[j]?≠some (Sl.bor d)) :
  Env K S B (upd H p (.lst xs)) σ (ρ.set i (.own es)) (aQ1 o i [p]):=by
 have hi:i<ρ.length:=(Aa9.mp h).1
 obtain ⟨p',hp',a,ys,b,c⟩:=I.own i ds h;rw[hp]at hp';cases hp';have oi:bL4 ρ o i p:=⟨_,h,rfl,by rw[hp];simp⟩
 have os:C3 ρ o S p:=.inr ⟨i,_,h,rfl,by rw[hp];simp⟩
 have:=I.put (H':=L2.upd H p (.lst xs)) (v:=.ref p) (x:=.own es) (L:=[p]) i hi (λb=>b=p) (λb z=>by rw[z];exact oi) (λb y q z=>by rw[B2 z];exact q) (λb z=>.inl (by rw[Ad1.mp z];exact oi))
  (.inl ⟨es,p,xs,rfl,rfl,rfl,C7,r.mono λb y q=>by
   obtain ⟨q1,q2⟩:=hid_some.mp q;refine hid_some.mpr ⟨λz=>q1 (z.elim id λz=>by rw[Ad1.mp z];exact os),?_⟩
   rw[B2 (λz=>q1 (by rw[z];exact os))];exact q2⟩) (.inr nb)
 rw[bA0 a]at this;exact this
def aO1:List Sl->Bool
 | []=>true
 | .bor _::_=>false
 | _::r=>aO1 r
theorem N9:∀{ρ:List Sl},aO1 ρ=true->∀(j:Nat) (d:PyData),ρ[j]?≠some (Sl.bor d)
 | [],_,j,d=>by simp
 | .bor _::_,h,_,_=>by cases h
 | .no::r,h,0,d=>by simp
 | .no::r,h,j+1,d=>by simpa using N9 (ρ:=r) h j d
 | .val _::r,h,0,d=>by simp
 | .val _::r,h,j+1,d=>by simpa using N9 (ρ:=r) h j d
 | .own _::r,h,0,d=>by simp
 | .own _::r,h,j+1,d=>by simpa using N9 (ρ:=r) h j d
 | .tr _::r,h,0,d=>by simp
 | .tr _::r,h,j+1,d=>by simpa using N9 (ρ:=r) h j d
theorem R1 {i:Nat}{R:AE}(hi:ρ[i]? = some (.own ds))(h:E K true t ρ d)(hl:ds.length<sizeLine)(hn:R.nx (ρ.set i (.own (ds++[d]))))(nb:aO1 ρ=true:=by rfl) :
  W K (Z6 (tBM K "list" aT7 (K8 i) (G5 t i5))) ρ R:=λS B D σ H o I s=>by
 obtain ⟨p,hp,a,xs,b,c⟩:=I.own i ds hi;refine⟨_,a,.inl ⟨rfl,xs,SqL.of b⟩,?_⟩;refine h S B σ H o I _ λv H' s' r=>?_
 refine⟨_,xs,v,rfl,rfl,s' _ _ b,by rw[c.length];exact hl,?_⟩
 exact s.nx _ σ _ _ ((I.grow s').upd hi hp ((c.mono (G1 s')).append (.cons r .nil)) (N9 nb)) hn
theorem a4 {wi:TI}{g:TG}{tb:TS}{R:AE}(hi:I K true wi ρ ds)(P:Nat->List Sl->Prop)(h0:P 0 ρ)
  (turn:∀i d ρ',ds[i]? = some d->P i ρ'->∃ρ'',G K true g d ρ' ρ''/\W K tb ρ'' {R with nx:=P (i+1),ct:=P (i+1),bk:=R.nx}) (hn:∀ρ',P ds.length ρ'->R.nx ρ'):W K (cC9 wi g tb) ρ R:=λS B D σ H o I0 s=>
 hi S B σ H o I0 _ λJ H1 s1 wk=>by
  obtain ⟨I1,sb⟩:=(I0.grow s1).rebase;generalize hB:hid (bL7 ρ o) H1=B' at I1 sb;have sz:Same (hid (C3 ρ o S) H1) B':=λb x q=>by
   obtain ⟨q1,q2⟩:=hid_some.mp q;rw[<- hB];exact hid_some.mpr ⟨λz=>q1 (.inr z),q2⟩
  refine⟨λi m σ' H'=>i<=ds.length/\m=ds.length-i/\∃ρ' o',Env K S B' H' σ' ρ' o'/\P i ρ',⟨_,Nat.zero_le _,rfl,ρ,o,I1,h0⟩,?_⟩
  rintro i k σ' H' ⟨hl,rfl,ρ',o',I',p⟩;have zH:=L2.Same.tr sz I'.base;by_cases c:i=ds.length
  ·subst c;exact .inl ⟨wk.stop _ _ zH (Aa6 _),s.nx ρ' σ' H' o' ⟨I'.len,L2.Same.tr sb I'.base,λb z=>(I0.sl b z),λi ds z hz b hb=>Y0 sb (I'.new i ds z hz b hb),I'.inj,I'.own,I'.val,I'.bor,I'.tr⟩ (hn ρ' p)⟩
  ·have hlt:i<ds.length:=by omega
   have hd:ds[i]? = some ds[i]:=Aa2 hlt
   obtain ⟨ρ'',hg,hb⟩:=turn i ds[i] ρ' hd p;refine .inr ⟨wk.go _ _ _ zH hd,λσ2 H2=>∃ρ2 o2,Env K S B' H2 σ2 ρ2 o2/\P (i+1) ρ2,λσ2 H2 ⟨ρ2,o2,I2,p2⟩=>⟨_,by omega,hlt,rfl,ρ2,o2,I2,p2⟩,λx H'' hy=>?_⟩
   obtain ⟨s2,hx⟩:=wk.yld _ _ _ _ _ zH hd hy;have rx:=hx (C3 ρ' o' S) λb z=>by
    obtain ⟨ys,y⟩:=I'.lists b z;refine⟨?_,by rw[y];simp⟩
    rcases z with z | ⟨j,es,h',hy,e'⟩
    ·unfold vw hid;exact if_pos (.inl z)
    ·exact Y0 sz (I'.new j es h' hy b e')
   refine hg.2 S B' σ' H'' o' (I'.grow s2) x rx _ λσ2 I2=>hb S B' _ σ2 H'' o' I2 ⟨λρ3 σ3 H3 o3 I3 w=>⟨ρ3,o3,I3,w⟩,λv d H3 a b w=>s.rt v d H3 (L2.Same.tr sb a) b w,λp xs es H3 a b c e w=>s.rl p xs es H3 (L2.Same.tr sb a) (Y0 sb b) c e w,
    λρ3 σ3 H3 o3 I3 w=>s.nx ρ3 σ3 H3 o3 ⟨I3.len,L2.Same.tr sb I3.base,λb z=>(I0.sl b z),λi ds z hz b hb=>Y0 sb (I3.new i ds z hz b hb),I3.inj,I3.own,I3.val,I3.bor,I3.tr⟩ w,λρ3 σ3 H3 o3 I3 w=>⟨ρ3,o3,I3,w⟩⟩
end
section
variable {K:PySem.W.Frag}{ρ ρ' ρ1:List Sl}{m m':Bool}{t ta tb tc:TE}{d d':PyData}{ds es:List PyData}
def cap:Sl->Sl
 | .own ds=>.bor (.list ds)
 | .tr t=>.bor t.data
 | x=>x
def slC (ρ:List Sl)(n:Nat)(is:List Nat):List Sl:=List.replicate n .no++is.map λi=>cap ((ρ[i]?).getD .no)
theorem aI4 {n:Nat}{is:List Nat}{j:Nat}{x:Sl}(h:(slC ρ n is)[j]? = some x)(hx:x≠.no):n<=j/\∃i y,is[j-n]? = some i/\ρ[i]? = some y/\cap y=x:=by
 unfold slC at h;by_cases c:j<n
 ·rw[List.getElem?_append_left (by simpa using c),List.getElem?_replicate,if_pos c]at h
  exact absurd (Ab3 h).symm hx
 ·rw[List.getElem?_append_right (by simpa using c),List.length_replicate,Aa8]at h
  refine⟨by omega,?_⟩
  cases e:is[j-n]? with
  | none=>rw[e]at h;cases h
  | some i=>
   rw[e]at h;have h:cap ((ρ[i]?).getD .no)=x:=Ab3 h;cases e':ρ[i]? with
   | none=>rw[e']at h;exact absurd h.symm hx
   | some y=>rw[e']at h;exact⟨i,y,rfl,e',h⟩
theorem bL0 {n:Nat}{is:List Nat}{j:Nat}{x:Sl}(h:(slC ρ n is)[j]? = some x):x.os=false:=by
 cases x with
 | own ds=>
  obtain ⟨_,i,y,_,_,e⟩:=aI4 h (by simp)
  cases y <;> simp[cap]at e
 | tr t=>
  obtain ⟨_,i,y,_,_,e⟩:=aI4 h (by simp)
  cases y <;> simp[cap]at e
 | _=>rfl
theorem t4 {n:Nat}{is:List Nat}{j:Nat}{x:Sl}{P:Prop}(h:(slC ρ n is)[j]? = some x)(hx:x.os=true):P:=by rw[bL0 h]at hx;cases hx
theorem Env.comp {S:Addr->Prop}{B H:Hp}{σ:St}{o:Nat->List Addr}(I:Env K S B H σ ρ o)(n:Nat)(is:List Nat):Env K (C3 ρ o S) H H (stC n is σ) (slC ρ n is) o:=by
 have st:∀(j:Nat) (i:Nat) v,n<=j->is[j-n]? = some i->σ[i]? = some v->(stC n is σ)[j]? = some v:=λj i v hj hi hv=>by
  unfold stC;rw[List.getElem?_append_right (by simpa using hj),List.length_replicate,Aa8,hi]
  simp[hv]
 have g:Same (hid (C3 ρ o S) H) (hid (C3 (slC ρ n is) o (C3 ρ o S)) H):=D1 (L2.Same.rf _) λb z _=>by
  rcases z with z | ⟨j,es,h,hy,_⟩
  ·exact z
  ·exact t4 h hy
 refine⟨by simp[stC,slC],L2.Same.rf _,I.lists,λj es h hx=>t4 h hx,λj k es fs h _ hx=>t4 h hx,λj es h=>t4 h rfl,λj d h=>?_,λj d h=>?_,λj t h=>t4 h rfl⟩
 ·obtain ⟨hj,i,y,hi,hy,e⟩:=aI4 h (by simp)
  cases y with
  | val d'=>
   cases e
   obtain ⟨v,a,b⟩:=I.val i d hy;exact⟨v,st j i _ hj hi a,b.mono g⟩
  | _=>simp[cap]at e
 ·obtain ⟨hj,i,y,hi,hy,e⟩:=aI4 h (by simp)
  cases y with
  | bor d'=>
   cases e
   obtain ⟨v,a,b⟩:=I.bor i d hy;exact⟨v,st j i _ hj hi a,b⟩
  | own es=>
   cases e
   obtain ⟨p,hp,a,xs,b,c⟩:=I.own i es hy;exact⟨_,st j i _ hj hi a,.lst (SqL.of b) (c.mono X1)⟩
  | tr t=>
   cases e
   obtain ⟨_,v,a,b⟩:=I.tr i t hy;exact⟨_,st j i _ hj hi a,aQ3 X1 (λ_ _ z=>z) X1 t (λ_ _=>rfl) b⟩
  | _=>simp[cap]at e
def aL5 (K:PySem.W.Frag)(m:Bool)(ρ:List Sl)(g:TG)(tt:TT)(te:TE)(d:PyData)(r:Option PyData):Prop:=
 ∃ρ',G K m g d ρ ρ'/\match r with
  | none=>T K tt ρ' false
  | some y=>T K tt ρ' true/\E K true te ρ' y
theorem Z0 {wi:TI}{n:Nat}{is:List Nat}{g:TG}{tt:TT}{te:TE}(f:PyData->Option PyData)(hi:I K m wi ρ ds)(hl:ds.length<sizeLine)(body:∀d∈ds,aL5 K m (slC ρ n is) g tt te d (f d)):EF K (aU7 wi n is g tt te) ρ (ds.filterMap f):=λS B σ H o I0 Q q=>
 hi S B σ H o I0 _ λJ H1 s1 wk=>by
  have IC:=(I0.grow s1).comp n is
  generalize hS:C3 ρ o S=S' at IC wk q;have lists:∀b,S' b->∃u:HM,H1 b=some u.ho:=by rw[<- hS];exact(I0.grow s1).lists
  refine⟨λi k ys H2=>i<=ds.length/\k=ds.length-i/\Same H1 H2/\ys.length<=i/\Reps K (hid S' H2) ys ((ds.take i).filterMap f),⟨_,Nat.zero_le _,rfl,L2.Same.rf _,Aa6 _,by simpa using Reps.nil⟩,?_⟩
  rintro i k ys H2 ⟨hil,rfl,s2,hy,r⟩;refine⟨by omega,?_⟩
  have zH:Same (vw m S' H1) H2:=L2.Same.tr u4 s2
  by_cases c:i=ds.length
  ·subst c;refine .inl ⟨wk.stop _ _ zH (Aa6 _),λD hD=>?_⟩
   rw[List.take_length]at r;exact q D ys _ (L2.Same.tr (L2.Same.tr s1 s2) (F4 hD)) (Y0 (L2.Same.tr s1 s2) hD) C7 (aE5 (λb z=>by obtain ⟨xs,e⟩:=lists b z;exact⟨xs,s2 _ _ e⟩) hD r)
  ·have hlt:i<ds.length:=by omega
   have hd:ds[i]? = some ds[i]:=Aa2 hlt
   have take:(ds.take (i+1)).filterMap f=(ds.take i).filterMap f++(f ds[i]).toList:=by
    rw[List.take_succ_eq_append_getElem hlt,List.filterMap_append];cases hf:f ds[i] <;> simp[List.filterMap_cons,hf]
   obtain ⟨ρ',hg,hb⟩:=body ds[i] (List.getElem_mem hlt);refine .inr ⟨wk.go _ _ _ zH hd,λx H3 hx=>?_⟩
   obtain ⟨s3,hr⟩:=wk.yld _ _ _ _ _ zH hd hx;have I3:Env K S' H1 H3 (stC n is σ) (slC ρ n is) o:=IC.grow (L2.Same.tr s2 s3);have eqS:∀b,C3 (slC ρ n is) o S' b->S' b:=λb z=>by
    rcases z with z | ⟨j,es,h,hy,_⟩
    ·exact z
    ·exact t4 h hy
   have rx:Rep K (vw m (C3 (slC ρ n is) o S') H3) x ds[i]:=by
    cases m with
    | false=>
     have:=hr (λ_=>False) λb z=>z.elim
     rw[bH4]at this;exact this
    | true=>
     refine hr _ λb z=>?_
     have z':=eqS b z
     obtain ⟨xs,e⟩:=lists b z';exact⟨by unfold vw hid;exact if_pos z',by rw[s2 _ _ e];simp⟩
   refine hg.2 S' H1 _ H3 o I3 x rx _ λσ4 I4=>?_
   cases hf:f ds[i] with
   | none=>
    rw[hf]at hb take;refine hb S' H1 σ4 H3 o I4 _ λH5 s5=>?_
    rw[if_neg Bool.false_ne_true];refine⟨_,by omega,hlt,rfl,L2.Same.tr s2 (L2.Same.tr s3 s5),by omega,?_⟩
    rw[take];simpa using r.mono (G1 (L2.Same.tr s3 s5))
   | some y=>
    rw[hf]at hb take;refine hb.1 S' H1 σ4 H3 o I4 _ λH5 s5=>?_
    rw[if_pos rfl];refine hb.2 S' H1 σ4 H5 o (I4.grow s5) _ λv H6 s6 rv=>?_
    have s36:=L2.Same.tr s3 (L2.Same.tr s5 s6)
    refine⟨_,by omega,hlt,rfl,L2.Same.tr s2 s36,by simp;omega,?_⟩
    rw[take];refine(r.mono (G1 s36)).append (.cons (rv.mono (D1 (L2.Same.rf _) λb z _=>.inl z)) .nil)
def sl0 (n:Nat)(ds:List PyData):List Sl:=ds.map .val++List.replicate (n-ds.length) .no
theorem env0 {S:Addr->Prop}{H:Hp}{N:List Str}{vs:List V}(hS:∀b,S b->∃u:HM,H b=some u.ho)(r:Reps K (hid S H) vs ds):Env K S H H (L2.G3 N vs) (sl0 N.length ds) (λ_=>[]):=by
 have nov:∀(j:Nat) (x:Sl),(sl0 N.length ds)[j]? = some x->x=.no\/∃d,ds[j]? = some d/\x=.val d:=λj x h=>by
  unfold sl0 at h;by_cases c:j<ds.length
  ·rw[List.getElem?_append_left (by simpa using c),Aa8,Aa2 c]at h
   exact .inr ⟨_,Aa2 c,(Ab3 h).symm⟩
  ·rw[List.getElem?_append_right (by simpa using c),List.getElem?_replicate]at h
   split at h
   ·exact .inl (Ab3 h).symm
   ·cases h
 have no1:∀{P:Prop} (j:Nat) (x:Sl),(sl0 N.length ds)[j]? = some x->x.os=true->P:=λj x h hx=>by
  rcases nov j _ h with e | ⟨d,_,e⟩ <;> rw[e]at hx <;> cases hx
 have g:Same (hid S H) (hid (C3 (sl0 N.length ds) (λ_=>[]) S) H):=D1 (L2.Same.rf _) λb z _=>by
  rcases z with z | ⟨j,es,h,hy,_⟩
  ·exact z
  ·exact no1 j es h hy
 refine⟨?_,L2.Same.rf _,hS,λj es h hx=>no1 j es h hx,λj k es fs h _ hx=>no1 j es h hx,λj es h=>no1 j _ h rfl,λj d h=>?_,λj d h=>?_,λj es h=>no1 j _ h rfl⟩
 ·unfold L2.G3 sl0;simp[r.length]
 ·rcases nov j _ h with e | ⟨d',h',e⟩
  ·cases e
  ·cases e
   obtain ⟨v,a,b⟩:=r.get' h';refine⟨v,?_,b.mono g⟩;unfold L2.G3
   have:=(Aa9.mp a).1
   rw[List.getElem?_append_left (by simpa using this),Aa8,a];rfl
 ·rcases nov j _ h with e | ⟨d',_,e⟩ <;> cases e
theorem Q9 {t:TS}{N:List Str}{vs:List V}{S:Addr->Prop}{H:Hp}{Q:VK}(hS:∀b,S b->∃u:HM,H b=some u.ho)(r:Reps K (hid S H) vs ds)(w:W K t (sl0 N.length ds) {nx:=λ_=>d=.none,rt:=λe=>e=d})
  (k:∀v H',Same H H'->Rep K (hid S H') v d->Q v H'):t {nx:=λ_ H'=>Q .non H',rt:=Q} (L2.G3 N vs) H:=
 w S H _ _ H _ (env0 hS r) ⟨λρ' σ' H' o' I' z=>k _ H' I'.base (by rw[z];exact .non),λv e H' s r' z=>k v H' s (by rw[<- z];exact r'),λ_ _ _ _ _ _ _ _ z=>z.elim,λ_ _ _ _ _ z=>z.elim,λ_ _ _ _ _ z=>z.elim⟩
theorem aB2 {t:TS}{N:List Str}{vs:List V}{S:Addr->Prop}{H:Hp}{Q:VK}(hS:∀b,S b->∃u:HM,H b=some u.ho)(r:Reps K (hid S H) vs ds)(w:W K t (sl0 N.length ds) {nx:=λ_=>False,rl:=λe=>e=es})
  (k:∀p xs H',Same H H'->H p=none->H' p=some (.lst xs)->Reps K (hid (λb=>S b\/b=p) H') xs es->Q (.ref p) H'):t {nx:=λ_ H'=>Q .non H',rt:=Q} (L2.G3 N vs) H:=
 w S H _ _ H _ (env0 hS r) ⟨λρ' σ' H' o' I' z=>z.elim,λv e H' s r' z=>z.elim,λp xs es' H' s n e r' z=>k p xs H' s n e (by rw[<- z];exact r'),λ_ _ _ _ _ z=>z.elim,λ_ _ _ _ _ z=>z.elim⟩
end
end LV
namespace L2
open PySem PySem.Spec PyProof.Rows
section
variable {X:Cx}
def CMulB (i j:Int):Prop:=i.natAbs<2^512/\j.natAbs<2^512
theorem aU9 {k:Int}(h:k.natAbs<2^512):Builtin.Int.intBits k<=2^20:=by
 unfold Builtin.Int.intBits;split
 ·exact Nat.zero_le _
 ·have:k.natAbs.log2<512:=by
   rcases Nat.eq_zero_or_pos k.natAbs with h0 | hp
   ·rw[h0];decide
   ·exact(Nat.log2_lt (Nat.ne_of_gt hp)).mpr h
  omega
theorem CMulB.ok {i j:Int}(h:CMulB i j):IntMulOk i j:=.of_bits (aU9 h.1) (aU9 h.2)
theorem E9:OpR X (binaryOp .Mult) (rI CMulB λi j=>.int (i*j)):=opI λ_ _ _ _ _ _ _ hc q=>mul_int q hc.ok
def aN1:List String:=["int", "bool", "str", "list", "tuple"]
def bS5 (K:PySem.W.Frag)(H:Hp)(T:String):V->Bool->Prop
 | .int _,b=>b=(T == "int")
 | .bl _,b=>b=(T == "int" || T == "bool")
 | .str _,b=>b=(T == "str")
 | .non,b=>b=false
 | .ref p,b=>(∃xs,SqL K H p xs/\b=(T == "list"))\/∃xs,SqT K H p xs/\b=(T == "tuple")
 | _,_=>False
theorem E1 {T:String}(h:T∈aN1):typeOf (.type T)=pure (.type "type"):=by
 simp only[aN1,Aa1,Ac0,or_false]at h;rcases h with rfl | rfl | rfl | rfl | rfl
 ·exact meta_int
 ·exact meta_bool
 ·exact meta_str
 ·exact meta_list
 ·exact meta_tuple
theorem t7 {x:Value}{Tx T:String}{s:Shared}{A:Around}{P:Program}{w:World}{E:Value->Shared->Prop}{Q:Value->Shared->Prop}(h:T∈aN1)(hx:s.TypeIs x Tx)(hs:isSubtype (.type Tx) (.type T)=pure true)(q:Q (.bool true) s) :
  wpAny (model P w) A (call (.builtin "isinstance") [x,.type T]) Q E s:=call_isinstance (isinstance_true (E1 h) hs) ⟨hx,q⟩
theorem bC7:X5 X (.builtin "isinstance") (λxs H Q=>∃x T b,xs=[x,.ty T]/\T∈aN1/\bS5 X.K H T x b/\Q (.bl b) H):=by
 intro pins s σ H xs us Q I r h;obtain ⟨x,T,b,rfl,hT,hv,q⟩:=h;cases r with
 | cons r1 r2=>
  cases r2 with
  | cons r3 r4=>
   cases r4;cases r3
   have ft:EP X pins σ Q (.bool b) s:=⟨.bl b,H,I,rfl,q⟩
   have ff:EP X pins σ Q (.bool b) {s with toks:=s.toks+1}:=⟨.bl b,H,I.tok _,rfl,q⟩
   have hT':=hT
   simp only[aN1,Aa1,Ac0,or_false]at hT';cases x with
   | int i=>
    obtain ⟨t,rfl⟩:=r1;cases hv;rcases hT' with rfl | rfl | rfl | rfl | rfl
    ·exact t7 hT (typeIs_int _ _ _) (by rw[isSubtype_type];kernel_rfl) ft
    all_goals exact call_isinstance (isinstance_false_int (by decide) (E1 hT) (by rw[isSubtype_type];kernel_rfl)) ff
   | bl k=>
    cases r1
    cases hv
    rcases hT' with rfl | rfl | rfl | rfl | rfl
    ·exact t7 hT (PySem.typeIs_bool _ _) (by rw[isSubtype_type];kernel_rfl) ft
    ·exact t7 hT (PySem.typeIs_bool _ _) (by rw[isSubtype_type];kernel_rfl) ft
    all_goals exact call_isinstance (isinstance_false_bool (by decide) (E1 hT) (by rw[isSubtype_type];kernel_rfl)) ff
   | str z=>
    obtain ⟨t,rfl⟩:=r1;cases hv;rcases hT' with rfl | rfl | rfl | rfl | rfl
    ·exact call_isinstance (isinstance_false_str (by decide) (E1 hT) (by rw[isSubtype_type];kernel_rfl)) ff
    ·exact call_isinstance (isinstance_false_str (by decide) (E1 hT) (by rw[isSubtype_type];kernel_rfl)) ff
    ·exact t7 hT (typeIs_str _ _ _) (by rw[isSubtype_type];kernel_rfl) ft
    all_goals exact call_isinstance (isinstance_false_str (by decide) (E1 hT) (by rw[isSubtype_type];kernel_rfl)) ff
   | non=>
    cases r1
    cases hv
    rcases hT' with rfl | rfl | rfl | rfl | rfl
    all_goals exact call_isinstance (isinstance_false_none (by decide) (E1 hT) (by rw[isSubtype_type];kernel_rfl)) ff
   | ref p=>
    cases r1
    rcases hv with ⟨ys,hq,rfl⟩ | ⟨ys,hq,rfl⟩
    ·obtain ⟨its,rv,⟨o,n,e,c,_,_⟩,_⟩:=I.list hq;rcases hT' with rfl | rfl | rfl | rfl | rfl
     ·exact call_isinstance (isinstance_false_list (by decide) (E1 hT) (by rw[isSubtype_type];kernel_rfl)) ⟨⟨o,e,c⟩,ff⟩
     ·exact call_isinstance (isinstance_false_list (by decide) (E1 hT) (by rw[isSubtype_type];kernel_rfl)) ⟨⟨o,e,c⟩,ff⟩
     ·exact call_isinstance (isinstance_false_list (by decide) (E1 hT) (by rw[isSubtype_type];kernel_rfl)) ⟨⟨o,e,c⟩,ff⟩
     ·exact t7 hT (⟨o,e,c⟩:s.TypeIs (.ref p) _) (by rw[isSubtype_type];kernel_rfl) ft
     ·exact call_isinstance (isinstance_false_list (by decide) (E1 hT) (by rw[isSubtype_type];kernel_rfl)) ⟨⟨o,e,c⟩,ff⟩
    ·obtain ⟨its,rv,⟨o,e,c,n,d⟩,_⟩:=I.tuple hq;rcases hT' with rfl | rfl | rfl | rfl | rfl
     ·exact call_isinstance (isinstance_false_tuple (by decide) (E1 hT) (by rw[isSubtype_type];kernel_rfl)) ⟨⟨o,e,c⟩,ff⟩
     ·exact call_isinstance (isinstance_false_tuple (by decide) (E1 hT) (by rw[isSubtype_type];kernel_rfl)) ⟨⟨o,e,c⟩,ff⟩
     ·exact call_isinstance (isinstance_false_tuple (by decide) (E1 hT) (by rw[isSubtype_type];kernel_rfl)) ⟨⟨o,e,c⟩,ff⟩
     ·exact call_isinstance (isinstance_false_tuple (by decide) (E1 hT) (by rw[isSubtype_type];kernel_rfl)) ⟨⟨o,e,c⟩,ff⟩
     ·exact t7 hT (⟨o,e,c⟩:s.TypeIs (.ref p) _) (by rw[isSubtype_type];kernel_rfl) ft
   | _=>exact hv.elim
end
theorem aB4 {X:Cx}{x:Str}{T:String}{pos:Pos}(hg:Gl X x)(hm:X.mg x=none)(hv:bootBuiltins x=some (.type T))(hn:x≠"__name__" := by decide)(hd:(x==("__debug__" : Str))=false:=by decide):PE X (.Name x pos) (tC (.ty T)):=bK8 (v:=.ty T) hg hm hv rfl hn hd
theorem aI7 {i:Nat}:∀v (σ:St) H Q Q',(∀σ' H',Q σ' H'->Q' σ' H')->R3 i v σ H Q->R3 i v σ H Q':=λ_ _ _ _ _ h q=>h _ _ q
theorem aD5:∀v (σ:St) H Q Q',(∀σ' H',Q σ' H'->Q' σ' H')->aX7 v σ H Q->aX7 v σ H Q':=λ_ _ _ _ _ h q=>⟨q.1,h _ _ q.2⟩
theorem aQ2 {t:TG}{u:TGs}(a:∀v (σ:St) H Q Q',(∀σ' H',Q σ' H'->Q' σ' H')->t v σ H Q->t v σ H Q')(b:∀v (σ:St) H Q Q',(∀σ' H',Q σ' H'->Q' σ' H')->u v σ H Q->u v σ H Q') :
  ∀v (σ:St) H Q Q',(∀σ' H',Q σ' H'->Q' σ' H')->aA3 t u v σ H Q->aA3 t u v σ H Q':=λ_ _ _ _ _ h ⟨v,r,e,q⟩=>⟨v,r,e,a _ _ _ _ _ (λ_ _ z=>b _ _ _ _ _ h z) q⟩
theorem cE5 {K:PySem.W.Frag}{i j k n:Nat}(h:i<n)(h':j<n):aA4 n (bL2 K k (aA3 (R3 i) (aA3 (R3 j) aX7))):=
 bT7 (aT3 aI7 (aQ2 aI7 aD5) (T9 h) (aT3 aI7 aD5 (T9 h') bW7))
def AllP {α:Type}(p:α->Prop):List α->Prop
 | []=>True
 | a::l=>p a/\AllP p l
theorem AllP.mem {α:Type}{p:α->Prop}:∀{l:List α},AllP p l->∀a∈l,p a
 | _::_,h,a,ha=>(Aa1.mp ha).elim (λe=>e▸h.1) λz=>AllP.mem h.2 a z
theorem O8 {β:Type}{x:Str}{v:β}:∀{l:List (Str×β)},l.lookup x=some v->(x,v)∈l
 | [],h=>by cases h
 | (y,u)::l,h=>by
  rw[List.lookup_cons]at h;by_cases e:x==y
  ·rw[e]at h;have e':x=y:=eq_of_beq e;cases h;subst e';exact List.mem_cons_self
  ·have e1:(x==y)=false:=by simpa using e
   rw[e1]at h;exact Ac8 _ (O8 h)
theorem CScope.of {X:Cx}{scope:Scope}{cl:List (Str×Addr)}{T N':List Str}{is:List Nat}(clos:closureFor scope X.env=pure cl)(kind:scope.kind=.function)
  (c1:scope.names.all (λy=>y.2 != .cell&&(y.2 != .local||scope.names.lookup y.1==some .local))=true) (c3:AllP (λp=>X.env.cells.lookup p.1=some p.2) cl)
  (c4:(relabel scope X.env).names.all (λy=>(y.2 != .cell&&y.2 != .free)||(cl.lookup y.1).isSome)=true) (c5:N'=T++is.map λ(i:Nat)=>((X.N[i]?).getD Str.empty:Str))
  (c6:is.all (λi=>decide (i<X.N.length))=true) (c7:AllP (λi=>∃x,X.N[i]? = some x/\((relabel scope X.env).names.lookup x=some .cell\/(relabel scope X.env).names.lookup x=some .free)/\(X.env.kindOf x=some .cell\/X.env.kindOf x=some .free)) is):CScope X scope cl T is N' where
 clos:=clos
 cell:=λy hy e=>by
  have:=Ac4.mp c1 y hy
  rw[e]at this;simp at this
 kind:=kind
 names:=λy hy e=>by
  have:=Ac4.mp c1 y hy
  rw[e]at this;simp at this;exact this
 cap:=λx c h=>c3.mem (x,c) (O8 h)
 has:=λx h=>by
  have go:∀k,(relabel scope X.env).names.lookup x=some k->k=.cell\/k=.free->∃c,cl.lookup x=some c:=λk e hk=>by
   have:=Ac4.mp c4 (x,k) (O8 e)
   rcases hk with rfl | rfl <;> exact Option.isSome_iff_exists.mp this
  rcases h with h | h
  ·exact go _ h (.inl rfl)
  ·exact go _ h (.inr rfl)
 N:=c5
 lt:=λi hi=>of_decide_eq_true (Ac4.mp c6 i hi)
 capt:=λi hi x e=>by
  obtain ⟨y,e',h1,h2⟩:=c7.mem i hi;rw[e]at e';cases e';exact⟨h1,h2⟩
section
variable {X:Cx}
theorem ixK (K:PySem.W.Frag)(h:X.K=K:=by rfl):IxR X (rIx K):=h▸bC9
theorem aZ5 (K:PySem.W.Frag)(h:X.K=K:=by rfl):X5 X (.builtin "len") (λxs H Q=>∃p ys,xs=[.ref p]/\(SqL K H p ys\/SqT K H p ys)/\Q (.int ys.length) H):=h▸m3
theorem aY4 (K:PySem.W.Frag)(h:X.K=K:=by rfl):X5 X (.builtin "isinstance") (λxs H Q=>∃x T b,xs=[x,.ty T]/\T∈aN1/\bS5 K H T x b/\Q (.bl b) H):=h▸bC7
end
end L2
namespace LV
open PySem L2
section
variable {K:PySem.W.Frag}{ρ ρ' ρ1:List Sl}{m m':Bool}{t ta tb tc:TE}{d d':PyData}{ds es:List PyData}
theorem aS1 {i j:Int}(ha:E K false ta ρ (.int i))(hb:E K false tb ρ (.int j)):E K m (tOp rEq ta tb) ρ (.bool (decide (i=j))):=
 aO5 ha hb λH Q q=>⟨rfl,by
  have:decide (V.int i=V.int j)=decide (i=j):=by simp
  rw[this];exact q _ λ_=>.bl _⟩
theorem aS8 {i j:Int}(ha:E K false ta ρ (.int i))(hb:E K false tb ρ (.int j)):E K m (tOp rNe ta tb) ρ (.bool (!decide (i=j))):=
 aO5 ha hb λH Q q=>⟨rfl,by
  have:decide (V.int i=V.int j)=decide (i=j):=by simp
  rw[this];exact q _ λ_=>.bl _⟩
theorem cB3 {i:Int}(ha:E K false ta ρ (.int i)):E K m (tUn (rU λi=>.int (-i)) ta) ρ (.int (-i)):=E.bor (E.imm (m:=false) λS B σ H o I Q q=>ha S B σ H o I _ λv H1 s1 r=>by
 cases r
 exact⟨i,rfl,q _ H1 s1 (.int _)⟩)
theorem bR7 {r:List V->Hp->VK->Prop}{t:TA}(ha:A K false t ρ ds)(hr:∀(H:Hp) (vs:List V) (Q:VK),Reps K H vs ds->(∀v,(∀H,Rep K H v d)->Q v H)->r vs H Q):E K m (tCB r t) ρ d:=λS B σ H o I Q q=>
 ha S B σ H o I _ λvs H1 s1 rs=>hr H1 vs Q rs λv rv=>q v H1 s1 (rv _)
theorem aU2 {t:TA}(ha:A K false t ρ [d])(h:sq d=some ds:=by rfl):E K m (tCB (λxs H Q=>∃p ys,xs=[.ref p]/\(SqL K H p ys\/SqT K H p ys)/\Q (.int ys.length) H) t) ρ (.int ds.length):=bR7 ha λH vs Q r q=>by
 cases r with
 | cons a b=>
  cases b
  cases a with
  | lst s r=>cases h;exact⟨_,_,rfl,.inl s,by rw[r.length];exact q _ λ_=>.int _⟩
  | tup s r=>cases h;exact⟨_,_,rfl,.inr s,by rw[r.length];exact q _ λ_=>.int _⟩
  | _=>cases h
theorem aZ6 {t:TA}{b:Bool}(ha:A K false t ρ [.bool b]):E K m (tCB (λxs H Q=>(∃i,xs=[.int i]/\Q (.int i) H)\/∃k,xs=[.bl k]/\Q (.int (if k then 1 else 0)) H) t) ρ (.int (if b then 1 else 0)):=bR7 ha λH vs Q r q=>by
 cases r with
 | cons a c=>
  cases c;cases a
  exact .inr ⟨b,rfl,q _ λ_=>.int _⟩
def bZ8 (T:String):PyData->Bool
 | .int _=>T == "int"
 | .bool _=>T == "int" || T == "bool"
 | .str _=>T == "str"
 | .list _=>T == "list"
 | .tuple _=>T == "tuple"
 | _=>false
def xNo:PyData->Bool
 | .dict _=>false
 | _=>true
theorem aD6 {T:String}(ha:E K false ta ρ d)(hT:T∈aN1:=by decide)(hn:xNo d=true:=by first | rfl | assumption):E K m (tCB (λxs H Q=>∃x T b,xs=[x,.ty T]/\T∈aN1/\bS5 K H T x b/\Q (.bl b) H) (G5 ta (G5 (tC (.ty T)) i5))) ρ (.bool (bZ8 T d)):=E.bor (E.imm (m:=false) λS B σ H o I Q q=>ha S B σ H o I _ λv H1 s1 r=>by
 refine⟨v,T,bZ8 T d,rfl,hT,?_,q _ H1 s1 (.bl _)⟩;cases r with
 | lst s r=>exact .inl ⟨_,s,rfl⟩
 | tup s r=>exact .inr ⟨_,s,rfl⟩
 | exc e=>exact absurd hn (by simp[xNo])
 | ptr=>exact absurd hn (by simp[xNo])
 | adr=>exact absurd hn (by simp[xNo])
 | ins _=>exact absurd hn (by simp[xNo])
 | exd _ _ _=>exact absurd hn (by simp[xNo])
 | dki _ _=>exact absurd hn (by simp[xNo])
 | dic _ _ _=>exact absurd hn (by simp[xNo])
 | _=>rfl)
theorem aV3 {r r':R2}{i j k:Int}{g g':Int->Int->Bool}(ha:E K false ta ρ (.int i))(hb:E K false tb ρ (.int j))(hc:E K false tc ρ (.int k)):E K m (bB3 (rI0 λi j=>.bl (g i j)) (rI0 λi j=>.bl (g' i j)) ta tb tc) ρ (.bool (g i j&&g' j k)):=
 E.bor (E.imm (m:=false) λS B σ H o I Q q=>ha S B σ H o I _ λv H1 s1 r1=>hb S B σ H1 o (I.grow s1) _ λu H2 s2 r2=>by
  cases r1;cases r2
  refine⟨i,j,rfl,rfl,g i j,rfl,?_⟩;cases h:g i j with
  | false=>rw[if_neg Bool.false_ne_true];exact q _ H2 (L2.Same.tr s1 s2) (by rw[h];exact .bl _)
  | true=>
   rw[if_pos rfl];refine hc S B σ H2 o ((I.grow s1).grow s2) _ λw H3 s3 r3=>?_
   cases r3
   refine⟨j,k,rfl,rfl,q _ H3 (L2.Same.tr s1 (L2.Same.tr s2 s3)) ?_⟩;rw[h,Bool.true_and];exact .bl _)
theorem bO7 (ha:E K false ta ρ d):E K m (tOp (λx y H Q=>y=.non/\Q (.bl (decide (x=.non))) H) ta (tC .non)) ρ (.bool (match d with | .none=>true | _=>false)):=aO6 false false ha bP8 λS H x y Q _ rx ry q=>by
 cases ry
 refine⟨rfl,q _ H (L2.Same.rf _) ?_⟩;cases rx <;> exact .bl _
end
end LV
namespace LV
open PySem PySem.Spec PyProof.Rows L2
section
variable {X:Cx}{pins:List (Addr×Obj)}{σ:L2.St}{H:Hp}{s:Shared}
mutual
theorem R5 (I:Inv X pins σ H s):∀(d:PyData) {v:V} {u:Value},d.canLay0=true->Rep X.K H v d->RelV v u->∃as,Reads s.heap u d as
 | .none,_,_,_,r,q=>by cases r;cases q;exact⟨_,.none⟩
 | .bool _,_,_,_,r,q=>by cases r;cases q;exact⟨_,.bool _⟩
 | .int _,_,_,_,r,q=>by cases r;obtain ⟨t,rfl⟩:=q;exact⟨_,.int _ _⟩
 | .str _,_,_,_,r,q=>by cases r;obtain ⟨t,rfl⟩:=q;exact⟨_,.str _ _⟩
 | .tuple ds,_,_,c,r,q=>by
  cases r with
  | tup sq rs=>
   cases q
   obtain ⟨its,rv,⟨o,e,c',n,d⟩,_⟩:=I.tuple sq;obtain ⟨as,ra⟩:=i9 I ds (by simpa[PyData.canLay0]using c) rs rv
   exact⟨_,.tuple e c' d (by simpa using ra)⟩
 | .list ds,_,_,c,r,q=>by
  cases r with
  | lst sq rs=>
   cases q
   obtain ⟨its,rv,⟨o,n,e,c',_,d⟩,_⟩:=I.list sq;obtain ⟨as,ra⟩:=i9 I ds (by simpa[PyData.canLay0]using c) rs rv
   exact⟨_,.list e c' d (by simpa using ra)⟩
 | .dict _,_,_,c,_,_=>by simp[PyData.canLay0]at c
theorem i9 (I:Inv X pins σ H s):∀(ds:List PyData) {vs:List V} {us:List Value},PyData.canLayAll0 ds=true->Reps X.K H vs ds->Vals vs us->∃as,ReadsAll s.heap us ds as
 | [],_,_,_,r,q=>by cases r;cases q;exact⟨_,.nil⟩
 | d::ds,_,_,c,r,q=>by
  have c':d.canLay0=true/\PyData.canLayAll0 ds=true:=by simpa[PyData.canLayAll0]using c
  cases r with
  | cons a b=>
   cases q with
   | cons a' b'=>
    obtain ⟨as,h1⟩:=R5 I d c'.1 a a';obtain ⟨bs,h2⟩:=i9 I ds c'.2 b b';exact⟨_,.cons h1 h2⟩
end
def Fit (d:PyData):Prop:=d.canLay0=true/\d.depth<=32
def bJ2 (K:PySem.W.Frag)(neg:Bool):R2:=λx y H Q=>∃d e,Rep K H x d/\Rep K H y e/\Fit d/\Fit e/\Q (.bl (if neg then !PyData.eqv d e else PyData.eqv d e)) H
theorem bA4 (K:PySem.W.Frag){k:Nat}(hr:Room k X.A)(h:X.K=K:=by rfl):OpR X (compareOp .Eq) (bJ2 K false):=by
 subst h;intro pins s σ H x y v u Q I rx ry ⟨d,e,hd,he,fd,fe,q⟩;obtain ⟨as,ra⟩:=R5 I d fd.1 hd rx;obtain ⟨bs,rb⟩:=R5 I e fe.1 he ry;exact SeqAt.compareEq_reads ra rb fd.1 fe.1 (by have:=hr.un;have:=fd.2;omega) ⟨.bl _,H,I,rfl,q⟩
theorem bV5 (K:PySem.W.Frag){k:Nat}(hr:Room k X.A)(h:X.K=K:=by rfl):OpR X (compareOp .NotEq) (bJ2 K true):=by
 subst h;intro pins s σ H x y v u Q I rx ry ⟨d,e,hd,he,fd,fe,q⟩;obtain ⟨as,ra⟩:=R5 I d fd.1 hd rx;obtain ⟨bs,rb⟩:=R5 I e fe.1 he ry;exact SeqAt.compareNe_reads ra rb fd.1 fe.1 (by have:=hr.un;have:=fd.2;omega) ⟨.bl _,H,I,rfl,q⟩
end
end LV
namespace PySem
open Sem (wp)
end PySem
namespace LV
open PySem PySem.Spec PyProof.Rows L2
end LV
namespace LS
open PySem PySem.W PyProof.Rows
section
variable {lt:Nat->Nat->Bool}
abbrev le (lt:Nat->Nat->Bool)(a b:Nat):Prop:=lt b a=false
end
end LS
namespace LV
open PySem PySem.Spec PyProof.Rows L2 PySem.W Att
section
variable {P:Program}{w:World}{A:Around}{s:Shared}{E:Value->Shared->Prop}
theorem v7 {a:Addr}{vs:List Value}{n:Nat}{P':PySem.Fin->Shared->Prop}(ho:s.heap.get? a=some (seqObj "list" vs.toArray n))(h2:vs.length<2)
  (h:P' (.done (.ret .none)) {s with heap:=sortedHeap s.heap a vs vs.toArray}):wpAny (model P w) A (Builtin.«list.sort» ⟨[.ref a],[]⟩) P' E s:=by
 rw[list_sort_plain];have ha:a<s.heap.objs.size:=Ab2 ho;refine wpAny_bind (listItems_at ho rfl ?_);refine wpAny_bind (listUpdate_at ho rfl ?_);obtain ⟨e1,ho1⟩:∃e1,(s.heap.update a (Obj.mapSeq λ_ => #[])).get? a=some (seqObj "list" #[] e1):=⟨_,get?_update_seq ho (λ_ => #[])⟩
 refine wpAny_bind (seqEpoch_at ho1 rfl ?_);refine wpAny_bind (wpAny_newTuple ?_);refine wpAny_bind (wpAny_newList ?_);refine wpAny_holding ?_;have ho6:(((s.heap.update a (Obj.mapSeq λ_ => #[])).push (seqObj "tuple" vs.toArray 0)).push (seqObj "list" #[] 0)).get? a=some (seqObj "list" #[] e1):=by
  rw[Heap.get?_push_ne _ _ _ (by rw[size_push',Heap.size_update];exact Ab7 (Nat.lt_succ_of_lt ha)),Heap.get?_push_ne _ _ _ (by rw[Heap.size_update];exact Ab7 ha)]
  exact ho1
 show wpAny (model P w) A _ P' E {s with heap:=((s.heap.update a (Obj.mapSeq λ_ => #[])).push (seqObj "tuple" vs.toArray 0)).push (seqObj "list" #[] 0)}
 dsimp only
 have hsz:vs.toArray.size<2:=by simpa using h2
 rw[if_pos hsz,if_pos hsz];refine wpAny_bind (wpAny_pure ?_);rw[StateT.run_pure];refine wpAny_bind (wpAny_pure ?_);dsimp only;refine wpAny_bind (seqEpoch_at ho6 rfl ?_);refine wpAny_bind (listUpdate_at ho6 rfl ?_ (hsz2:=by rw[Array.size_map];show(pairsOf vs).size<=_;rw[pairsOf_size,sizeLine_eq];omega))
 simp only[bne_self_eq_false,Bool.false_eq_true,if_false];refine wpAny_pure ?_;have e:(arrOf (SortSt.mk' general' (vs.toArray.zip vs.toArray) #[] 7 none)).map (·.2)=vs.toArray:=by
  show(vs.toArray.zip vs.toArray).map (·.2)=vs.toArray
  refine Array.ext (by simp) λi h1 h2=>by simp
 have h':=h
 unfold sortedHeap at h';rw[e];exact h'
theorem o6 {l:Addr}{vs:List Value}{Q:Value->Shared->Prop}(hl:s.heap.IsList l vs.toArray)(h2:vs.length<2)
  (h:Q (.ref (s.heap.objs.size+1)) {s with heap:=sortedAll s.heap vs vs.toArray}):wpAny (model P w) A (call (.builtin "sorted") [.ref l]) Q E s:=by
 refine Calls.call_function_entry kind_sorted plain_sorted entry_sorted (args_sorted1 _) ?_;unfold Builtin.«sorted»;refine wpAny_bind (m:=checkCount "sorted" 1 1 _) (wpAny_pure ?_);refine wpAny_bind (collect_list hl ?_ (by rw[sizeLine_eq];omega))
 refine wpAny_bind (wpAny_newList ?_ (by rw[sizeLine_eq];omega))
 have hsz:((s.heap.push (seqObj "list" #[] 0)).update s.heap.objs.size (Obj.mapSeq (· ++ vs.toArray))).objs.size=s.heap.objs.size+1:=by
  rw[Heap.size_update,size_push']
 have hoL:(((s.heap.push (seqObj "list" #[] 0)).update s.heap.objs.size (Obj.mapSeq (· ++ vs.toArray))).push (seqObj "list" vs.toArray 0)).get? (s.heap.objs.size+1)=some (seqObj "list" vs.toArray 0):=by
  rw[<- hsz];exact Ac1 _ rfl
 show wpAny _ _ _ _ _ {s with heap:=((s.heap.push (seqObj "list" #[] 0)).update s.heap.objs.size (Obj.mapSeq (· ++ vs.toArray))).push (seqObj "list" vs.toArray 0)}
 rw[hsz];refine wpAny_bind (wpAny_holding (wpAny_call_entry slot_list_sort ⟨_,hoL,rfl⟩ entry_list_sort (v7 hoL h2 ⟨_,rfl,?_⟩) (args_list_sort _)));exact wpAny_pure ⟨_,rfl,h⟩
end
section
variable {X:Cx}{pins:List (Addr×Obj)}{σ:L2.St}{H:Hp}{s:Shared}
theorem r9 {vs:List V}{us:List Value}(r:Vals vs us):∀{q:List Nat},(∀i∈q,i<vs.length)->Vals (q.map λi=>vs.getD i .non) (q.map λi=>us.getD i .none)
 | [],_=>.nil
 | i::q,h=>by
  have hi:=h i (by simp)
  obtain ⟨u,h1,h2⟩:=r.get (i:=i) (x:=vs[i]) (Aa2 hi);refine .cons ?_ (r9 r λj hj=>h j (by simp[hj]))
  have e1:vs.getD i .non=vs[i]:=by simp[List.getD,hi]
  have e2:us.getD i .none=u:=by simp[List.getD,h1]
  show RelV (vs.getD i .non) (us.getD i .none)
  rw[e1,e2];exact h2
end
end LV
namespace LV
open PySem L2
section
variable {K:PySem.W.Frag}{ρ ρ' ρ1:List Sl}{m m':Bool}{t ta tb tc:TE}{d d':PyData}{ds es:List PyData}
abbrev lI (l:List Int):PyData:=.list (l.map .int)
abbrev tI (l:List Int):PyData:=.tuple (l.map .int)
theorem j9 {α:Type}{f:α->PyData}(h:∀a,imm (f a)=true):∀l:List α,W8 (l.map f)=true
 | []=>rfl
 | a::l=>by simp[W8,h a,j9 h l]
def FitN (n:Nat)(d:PyData):Prop:=d.canLay0=true/\d.depth<=n
theorem aL2 {n:Nat}:∀{l:List PyData},(∀d∈l,FitN n d)->PyData.canLayAll0 l=true/\PyData.depthAll l<=n
 | [],_=>⟨rfl,by simp[PyData.depthAll]⟩
 | a::l,h=>by
  obtain ⟨h1,h2⟩:=h a (by simp)
  obtain ⟨h3,h4⟩:=aL2 (l:=l) λd hd=>h d (by simp[hd])
  exact⟨by simp[PyData.canLayAll0,h1,h3],by simp only[PyData.depthAll];omega⟩
theorem bF6 {n:Nat}{l:List PyData}(h:∀d∈l,FitN n d):FitN (n+1) (.tuple l):=by
 obtain ⟨a,b⟩:=aL2 h;exact⟨by simpa[PyData.canLay0]using a,by simp only[PyData.depth];omega⟩
theorem FitN.fit {n:Nat}(h:FitN n d)(hn:n<=32:=by decide):Fit d:=⟨h.1,Nat.le_trans h.2 hn⟩
theorem bQ7 (ha:E K false ta ρ d)(hb:E K false tb ρ d')(h1:Fit d)(h2:Fit d'):E K m (tOp (bJ2 K false) ta tb) ρ (.bool (PyData.eqv d d')):=
 aO6 false false ha hb λS H x y Q _ rx ry q=>⟨d,d',rx,ry,h1,h2,q _ H (L2.Same.rf _) (.bl _)⟩
theorem cA8 (ha:E K false ta ρ d)(hb:E K false tb ρ d')(h1:Fit d)(h2:Fit d'):E K m (tOp (bJ2 K true) ta tb) ρ (.bool (!PyData.eqv d d')):=
 aO6 false false ha hb λS H x y Q _ rx ry q=>⟨d,d',rx,ry,h1,h2,q _ H (L2.Same.rf _) (.bl _)⟩
abbrev lB (l:List Bool):PyData:=.list (l.map .bool)
theorem aN2 {S:Addr->Prop}{H1:Hp}{p:Addr}{xs:List V}(hs:∀b,S b->∃u:HM,H1 b=some u.ho)(hp:H1 p=none)(r:Reps K H1 xs ds)(hi:W8 ds=true):Reps K (hid (λb=>S b\/b=p) (upd H1 p (.lst xs))) xs ds:=
 aA2 (λa ys q=>U6 (λb z=>by
  rcases z with z | z
  ·obtain ⟨zs,e⟩:=hs b z;exact⟨zs,by rw[B2 (λz'=>by rw[z',hp]at e;cases e)];exact e⟩
  ·exact⟨.l xs,by rw[z];exact C7⟩) (x8 (F4 hp) q)) ds hi r
theorem bP1 {r:List V->Hp->VK->Prop}{t:TA}(ha:A K false t ρ ds)(hi:W8 es=true)(hr:∀(H:Hp) (vs:List V) (Q:VK),Reps K H vs ds->(∀p xs,H p=none->Reps K H xs es->Q (.ref p) (upd H p (.lst xs)))->r vs H Q):EF K (tCB r t) ρ es:=λS B σ H o I Q q=>
 ha S B σ H o I _ λvs H1 s1 rs=>hr H1 vs Q rs λp xs hp rx=>q p xs _ (L2.Same.tr s1 (F4 hp)) (Y0 s1 hp) C7 (aN2 (I.grow s1).lists hp rx hi)
end
section
variable {K:PySem.W.Frag}{ρ ρ' ρ1:List Sl}{m m':Bool}{t ta tb tc:TE}{d d':PyData}{ds es:List PyData}{u u0 u1:OT}{us us':List OT}
theorem Env.frz {S:Addr->Prop}{B H:Hp}{σ:St}{o:Nat->List Addr}{i:Nat}{x:Sl}(I:Env K S B H σ ρ o)(hi:ρ[i]? = some x)(hx:x=.own ds/\d=.list ds\/∃u,x=.tr u/\d=u.data):Env K S B H σ (ρ.set i (.val d)) o:=by
 have hos:x.os=true:=by rcases hx with ⟨rfl,_⟩ | ⟨u,rfl,_⟩ <;> rfl
 have hlt:i<ρ.length:=(Aa9.mp hi).1
 have at_:∀{j:Nat} {y:Sl},y≠.val d->(ρ.set i (.val d))[j]? = some y->i≠j/\ρ[j]? = some y:=λ{j y} hy h=>by
  rw[List.getElem?_set]at h;by_cases c:i=j
  ·rw[if_pos c,if_pos (by omega)]at h
   exact absurd (Ab3 h).symm hy
  ·rw[if_neg c]at h;exact⟨c,h⟩
 have nd:∀{y:Sl},y.os=true->y≠.val d:=λ{y} h e=>by rw[e]at h;cases h
 have g:Same (hid (C3 ρ o S) H) (hid (C3 (ρ.set i (.val d)) o S) H):=D1 (L2.Same.rf _) λb z _=>m9 rfl z
 have vis:∀b∈o i,hid (C3 (ρ.set i (.val d)) o S) H b=H b:=λb hb=>by
  obtain ⟨xs,e⟩:=I.lists b (.inr ⟨i,x,hi,hos,hb⟩);rw[e];refine hid_some.mpr ⟨λz=>?_,e⟩
  rcases z with z | ⟨j,y,h,hy,hb'⟩
  ·obtain ⟨ys,e'⟩:=I.sl b z;rw[I.new i x hi hos b hb]at e';cases e'
  ·obtain ⟨c,h⟩:=at_ (nd hy) h;exact c (I.inj i j x y hi h hos hy b hb hb')
 have lists:∀b,C3 (ρ.set i (.val d)) o S b->∃u:HM,H b=some u.ho:=λb z=>I.lists b (m9 rfl z)
 refine⟨by simp[I.len],I.base,I.sl,λj y h hy=>I.new j y (at_ (nd hy) h).2 hy,λj k y z h h' hy hz=>I.inj j k y z (at_ (nd hy) h).2 (at_ (nd hz) h').2 hy hz,λj es h=>?_,λj d' h=>?_,λj d' h=>?_,λj t h=>?_⟩
 ·obtain ⟨c,h⟩:=at_ (nd rfl) h;obtain ⟨p,o',a,xs,b,r'⟩:=I.own j es h;exact⟨p,o',a,xs,b,r'.mono g⟩
 ·by_cases c:i=j
  ·subst c;rw[List.getElem?_set_self hlt]at h;cases h;rcases hx with ⟨rfl,rfl⟩ | ⟨u,rfl,rfl⟩
   ·obtain ⟨p,o',a,xs,b,r'⟩:=I.own i ds hi;exact⟨_,a,.lst (SqL.of (by rw[vis p (by rw[o'];simp)];exact b)) (r'.mono g)⟩
   ·obtain ⟨_,v,a,b⟩:=I.tr i u hi;exact⟨v,a,aQ3 X1 (λ_ _ q=>U6 lists q) g u vis b⟩
  ·rw[Ac5 c]at h;obtain ⟨v,a,b⟩:=I.val j d' h;exact⟨v,a,b.mono g⟩
 ·obtain ⟨c,h⟩:=at_ (by simp) h
  exact I.bor j d' h
 ·obtain ⟨c,h⟩:=at_ (nd rfl) h;obtain ⟨n,v,a,b⟩:=I.tr j t h;exact⟨n,v,a,b.mono g (L2.Same.rf _)⟩
theorem Z8 {i:Nat}{t:TS}{R:AE}(hi:ρ[i]? = some (.own ds))(h:W K t (ρ.set i (.val (.list ds))) R):W K t ρ R:=λS B D σ H o I s=>h S B D σ H o (I.frz hi (.inl ⟨rfl,rfl⟩)) s
end
end LV
namespace LV
open PySem PySem.Spec PyProof.Rows L2
def bP0 (K:PySem.W.Frag):R2:=λx y H Q=>∃l b xs zs,x=.ref l/\y=.ref b/\SqL K H l xs/\SqL K H b zs/\xs.length+zs.length<=sizeLine/\∀p,H p=none->Q (.ref p) (upd H p (.lst (xs++zs)))
theorem bJ4 {X:Cx}(K:PySem.W.Frag)(h:X.K=K:=by rfl):OpR X (binaryOp .Add) (bP0 K):=by
 subst h;intro pins s σ H x y v u Q I rx ry h;obtain ⟨l,b,xs,zs,rfl,rfl,hH,hB,hz,q⟩:=h;cases rx;cases ry;obtain ⟨its,r,⟨⟨cls,dd,data,sl⟩,n,ho,hc,hdd,hd⟩,_⟩:=I.list hH;obtain ⟨its2,r2,⟨⟨cls2,dd2,data2,sl2⟩,n2,ho2,hc2,hdd2,hd2⟩,_⟩:=I.list hB;simp only at hc hd hc2 hd2;subst hc hd hc2 hd2;have e:its.toArray++its2.toArray=(its++its2).toArray:=by simp
 have hl:=r.length
 have hl2:=r2.length
 refine concat_meets ⟨_,ho,rfl⟩ ⟨_,ho2,rfl⟩ noFill_list_add seq_list_add PySem.F.slot_list_add PySem.F.entry_list_add (PySem.F.args_list_add_2 _ _) (list_addW l b its.toArray its2.toArray n n2 dd dd2 sl sl2 (by simp;omega)) ⟨ho,ho2,?_⟩
 rw[e];exact⟨.ref _,_,I.lnew (t':=s.toks) (r.append r2) (by rw[Ab5];omega),rfl,q _ I.fresh⟩
end LV
namespace LV
open PySem L2
section
variable {K:PySem.W.Frag}{ρ ρ' ρ1:List Sl}{m m':Bool}{t ta tb tc:TE}{d d':PyData}{ds es:List PyData}
theorem aL9:∀{l l':List PyData},W8 (l++l')=(W8 l&&W8 l')
 | [],l'=>by simp[W8]
 | a::l,l'=>by simp[W8,aL9 (l:=l),Bool.and_assoc]
theorem bU3 (ha:E K false ta ρ (.list ds))(hb:E K false tb ρ (.list es))(hi:W8 ds=true)(hi':W8 es=true)(hl:ds.length+es.length<=sizeLine:=by first | decide | (unfold PySem.sizeLine;simp;done)):EF K (tOp (bP0 K) ta tb) ρ (ds++es):=λS B σ H o I Q q=>
 ha S B σ H o I _ λx H1 s1 rx=>hb S B σ H1 o (I.grow s1) _ λy H2 s2 ry=>by
  cases rx with
  | @lst a xs _ sa ra=>
  cases ry with
  | @lst b ys _ sb rb=>
  have ra':=ra.mono s2
  refine⟨a,b,xs,ys,rfl,rfl,D8 s2 sa,sb,by rw[ra.length,rb.length];exact hl,λp hp=>q p _ _ (L2.Same.tr s1 (L2.Same.tr s2 (F4 hp))) (Y0 (L2.Same.tr s1 s2) hp) C7 (aN2 ((I.grow s1).grow s2).lists hp (ra'.append rb) ?_)⟩
  rw[aL9,hi,hi'];rfl
def O (K:PySem.W.Frag)(t:TO)(ρ:List Sl)(i:Option Int):Prop:=
 ∀(S:Addr->Prop) (B:Hp) (σ:St) (H:Hp) (o:Nat->List Addr),Env K S B H σ ρ o->∀Q,(∀H',Same H H'->Q i H')->t σ H Q
theorem bW9:O K m7 ρ none:=λS B σ H o I Q q=>q H (L2.Same.rf _)
theorem bD3 {i:Int}(h:E K false t ρ (.int i)):O K (bD0 t) ρ (some i):=λS B σ H o I Q q=>h S B σ H o I _ λv H' s r=>by
 cases r
 exact⟨i,rfl,q H' s⟩
end
end LV
namespace L2
open PySem
def cB6:Expr->Bool
 | .Starred ..=>false
 | _=>true
theorem bB2 {e:Expr}{es:List Expr}{env:Env}(h:cB6 e=true):starEach (e::es) env=(false,eval e env)::starEach es env:=by
 cases e <;> first | rfl | cases h
theorem A0 {X:Cx}{e:Expr}{es:List Expr}{te:TE}{t:TA}(ha:PE X e te)(hr:PA X es t)(h:cB6 e=true:=by rfl):PA X (e::es) (G5 te t):=bK3 ha hr (bB2 h)
end L2
namespace TT
end TT
namespace TT
end TT
namespace TT
end TT
namespace TT
end TT
namespace TT
end TT
namespace TT
end TT
namespace TT
end TT
namespace TT
end TT
namespace TT
end TT
namespace TT
end TT
namespace TT
variable {F G:Nat->Nat}{m:Nat}
end TT
namespace LV
open PySem L2
def Sl.nb:Sl->Bool
 | .bor _=>false
 | _=>true
theorem c8 {n i:Nat}{d:PyData}(h:(L5 0 n)[i]? = some d):d=.int (i:Int)/\i<n:=by
 unfold L5 at h;have hn:=(Aa9.mp h).1;have hn:i<n:=by simpa using hn
 rw[Aa8,List.getElem?_range hn]at h;refine⟨?_,hn⟩
 have:=(Ab3 h).symm
 simpa using this
def nI (l:List Nat):List PyData:=l.map λ(x:Nat)=>PyData.int (x:Int)
theorem s9 (l:List Nat):(nI l).length=l.length:=by simp[nI]
end LV
namespace LV
open PySem PySem.Spec PyProof.Rows L2
section
variable {K:PySem.W.Frag}{ρ:List Sl}{m:Bool}{t ta tb:TE}{d:PyData}{ds es:List PyData}
theorem aZ4 {i:Nat}{R:AE}(hi:ρ[i]? = some (.own ds))(h:EF K t ρ es)(hl:ds.length+es.length<=sizeLine)(hn:R.nx (ρ.set i (.own (ds++es))))(nb:aO1 ρ=true:=by rfl) :
  W K (Z6 (tBM K "list" aU6 (K8 i) (G5 t i5))) ρ R:=λS B D σ H o I s=>by
 obtain ⟨p,hp,a,xs,b,c⟩:=I.own i ds hi;refine⟨_,a,.inl ⟨rfl,xs,SqL.of b⟩,?_⟩;refine h S B σ H o I _ λq ys H' s' n e r=>?_
 refine⟨_,_,xs,ys,rfl,rfl,s' _ _ b,e,by rw[c.length,r.length];exact hl,?_⟩
 exact s.nx _ σ _ _ ((I.grow s').upd hi hp ((c.mono (G1 s')).append (r.mono (D1 (L2.Same.rf _) λb z _=>.inl z))) (N9 nb)) hn
end
end LV
namespace L2
open PySem PySem.Spec PyProof.Rows
section
variable {X:Cx}{pins:List (Addr×Obj)}{σ:St}{H:Hp}{s:Shared}{h':Heap}
theorem Inv.turnedL {t':Nat}{fp:List Addr}(I:Inv X pins σ H s)(k:∀b o,b∉fp->s.heap.get? b=some o->h'.get? b=some o)(hf:∀b∈fp,FpOk X pins H b):Inv X pins σ H {s with heap:=h',toks:=t'}:=by
 have nit:∀b u,H b=some u->b∉fp:=λb u e z=>by rw[(hf b z).1]at e;cases e
 refine I.step (g':=s.gens) (d':=s.drawn) (ch:=fp) (λb hb=>?_) (λb o _ _ hc e _=>k b o hc e) (λb o _ _ hc e _=>⟨o.slots,k b o hc e⟩) (λ_ _ _ _ n=>n)
  (λb o hc e=>⟨o,k b o hc e⟩) (λ_ _ e=>e) (λ_ _ _ e=>e) (λb ps e=>⟨#[],by rw[e];simp⟩) (λm hm=>?_) (λb u e=>?_) I.bare
 ·obtain ⟨_,f1,_,f3,f4,f5⟩:=hf b hb;exact⟨f3,f1,f4,f5⟩
 ·obtain ⟨o,es,ep,ho,r⟩:=hm;exact⟨o,es,ep,k _ o (λz=>(hf _ z).2.1 rfl) ho,r⟩
 ·refine(I.hok b u e).stay (λc v hc q=>k c v ?_ q) (λ_ q=>q) λ_ _ q=>q
  rcases hc with z | z
  ·rw[z];exact nit b u e
  ·exact nit c _ z
theorem Inv.turnedLaid {t':Nat}{fp:List Addr}{T:Addr}{ob:HO}(I:Inv X pins σ H s)(k:∀b o,b∉fp->s.heap.get? b=some o->h'.get? b=some o)(hf:∀b∈fp,FpOk X pins H b)(hT:s.heap.objs.size<=T)
  (new:ObjOk X.prog X.w (upd H T ob) h' T ob):Inv X pins σ (upd H T ob) {s with heap:=h',toks:=t'}:=by
 have nit:∀b u,H b=some u->b∉fp:=λb u e z=>by rw[(hf b z).1]at e;cases e
 have HT:H T=none:=I.hok.fresh hT
 have nT:∀b o,s.heap.get? b=some o->b≠T:=λb o e z=>by have h1:b<s.heap.objs.size:=Ab2 e;rw[z]at h1;exact absurd (Ab6 h1 hT) (Ad2 _)
 have nH:∀b u,H b=some u->b≠T:=λb u e z=>by rw[z,HT]at e;cases e
 refine I.step (g':=s.gens) (d':=s.drawn) (ch:=fp) (λb hb=>?_) (λb o _ _ hc e _=>k b o hc e) (λb o _ _ hc e _=>⟨o.slots,k b o hc e⟩) (λb o _ e n=>by rw[B2 (nT b o e)];exact n)
  (λb o hc e=>⟨o,k b o hc e⟩) (λb _ e=>by rw[B2 (nH b _ e)];exact e) (λb _ _ e=>by rw[B2 (nH b _ e)];exact e) (λb ps e=>⟨#[],by rw[B2 (nH b _ e),e];simp⟩) (λm hm=>?_) (λb u e=>?_) I.bare
 ·obtain ⟨_,f1,_,f3,f4,f5⟩:=hf b hb;exact⟨f3,f1,f4,f5⟩
 ·obtain ⟨o,es,ep,ho,r⟩:=hm;exact⟨o,es,ep,k _ o (λz=>(hf _ z).2.1 rfl) ho,r⟩
 ·by_cases hb:b=T
  ·subst hb;rw[C7]at e;cases e;exact new
  rw[B2 hb]at e;refine(I.hok b u e).stay (λc v hc q=>k c v ?_ q) (λc q=>by rw[B2 (nH c _ q)];exact q) λc _ q=>by rw[B2 (nH c _ q)];exact q
  rcases hc with z | z
  ·rw[z];exact nit b u e
  ·exact nit c _ z
end
end L2
namespace LV
open PySem PySem.Spec PyProof.Rows L2
section
variable {K:PySem.W.Frag}{ρ:List Sl}{m:Bool}{t ta tb:TE}{d d':PyData}{ds es:List PyData}
def enD (ds:List PyData):List PyData:=ds.mapIdx λi d=>.tuple [.int (i:Int),d]
theorem l0:(enD ds).length=ds.length:=by simp[enD]
theorem aB6 {i:Nat}{d:PyData}(h:(enD ds)[i]? = some d):∃y,ds[i]? = some y/\d=.tuple [.int (i:Int),y]:=by
 unfold enD at h;rw[List.getElem?_mapIdx]at h;obtain ⟨y,h1,h2⟩:=Option.map_eq_some_iff.mp h;exact⟨y,h1,h2.symm⟩
end
end LV
namespace L2
open PySem PySem.Spec PyProof.Rows
end L2
namespace LV
open PySem PySem.Spec PyProof.Rows L2
section
variable {K:PySem.W.Frag}{ρ ρ':List Sl}{m:Bool}{t ta tb:TE}{d d':PyData}{ds es:List PyData}
def spX (K:PySem.W.Frag)(pre:List PyData->(PyData->Prop)->Prop):Sp:=λvs H Q _=>∃(ds:List PyData) (S:Addr->Prop) (post:PyData->Prop),(∀b,S b->∃u:HM,H b=some u.ho)/\Reps K (hid S H) vs ds/\pre ds post /\
 ∀d v H',post d->Same H H'->Rep K (hid S H') v d->Q v H'
theorem bT5 {t:TS}{N:List Str}{vs:List V}{S:Addr->Prop}{H:Hp}{Q:VK}{post:PyData->Prop}(hS:∀b,S b->∃u:HM,H b=some u.ho)(r:Reps K (hid S H) vs ds)(w:W K t (sl0 N.length ds) {nx:=λ_=>post .none,rt:=post})
  (k:∀d v H',post d->Same H H'->Rep K (hid S H') v d->Q v H'):t {nx:=λ_ H'=>Q .non H',rt:=Q} (L2.G3 N vs) H:=
 w S H _ _ H _ (env0 hS r) ⟨λρ' σ' H' o' I' z=>k _ _ H' z I'.base .non,λv e H' s r' z=>k e v H' z s r',λ_ _ _ _ _ _ _ _ z=>z.elim,λ_ _ _ _ _ z=>z.elim,λ_ _ _ _ _ z=>z.elim⟩
theorem bX2 {i:Nat}{R:AE}{pre:List PyData->(PyData->Prop)->Prop}{post:PyData->Prop}{t:TA}{X:XK}(ha:A K true t ρ ds)(hp:pre ds post)(hn:∀d,post d->R.nx (ρ.set i (.val d))):W K (aM1 (a3 (spX K pre) [] X t) (R3 i)) ρ R:=λS B D σ H o I s=>
 ha S B σ H o I _ λvs H1 s1 rs=>⟨ds,C3 ρ o S,post,(I.grow s1).lists,by rw[List.append_nil];exact rs,hp,λd v H' z s' r=>(E4 (K:=K) (m:=true) (i:=i) (ρ := ρ) (d:=d)).2 S B σ H' o (I.grow (L2.Same.tr s1 s')) v r _ λσ' I'=>s.nx _ σ' H' o I' (hn d z)⟩
theorem cD9 {K:PySem.W.Frag}{pre:List PyData->(PyData->Prop)->Prop}{n:Nat}(h:∀ds d,pre ds d->ds.length=n):∀vs H Q E,spX K pre vs H Q E->vs.length=n:=λvs H Q E ⟨ds,S,d,_,r,p,_⟩=>by
 have e:=r.length
 rw[e];exact h ds d p
theorem cB7 {K:PySem.W.Frag}{ρ:List Sl}(PJ:List Sl->Prop){c:TT}{t u:TS}{b:Bool}{R:AE}(h:LV.T K c ρ b)(h1:b=true->W K t ρ {R with nx:=PJ})(h2:b=false->W K u ρ {R with nx:=PJ})(hn:∀ρ',PJ ρ'->R.nx ρ'):W K (aX1 c t u) ρ R:=
 c0 h (λe=>(h1 e).weak hn (λ_ z=>z) (λ_ z=>z) (λ_ z=>z) (λ_ z=>z)) (λe=>(h2 e).weak hn (λ_ z=>z) (λ_ z=>z) (λ_ z=>z) (λ_ z=>z))
end
end LV
namespace L2
open PySem PySem.Spec PyProof.Rows
open PySem.Builtin PySem.Builtin.Str
theorem i3 (x:Str)(c:Nat):∀(n a:Nat) (A:Array Nat) (fr:Nat),fr<=a->a+n=x.length+1->A.size<=a ->
  (forIn (List.range' a n) (A,fr) (StrLaws.occBody x ⟨#[c]⟩ x.length (x.length+1))).run.fst.size=A.size+(x.cps.toList.drop a).count c
 | 0,a,A,fr,h1,h2,h3=>by
  have:x.cps.toList.drop a=[]:=List.drop_eq_nil_of_le (by simp[Str.length]at h2 ⊢;omega)
  rw[this];rfl
 | n+1,a,A,fr,h1,h2,h3=>by
  rw[List.range'_succ,List.forIn_cons];unfold StrLaws.occBody;have so:=StrLaws.subAt_one x c a;by_cases hc:x.cps.toList[a]? = some c
  ·obtain ⟨p,q⟩:=so.mpr hc;have hl:a<x.cps.toList.length:=(Aa9.mp hc).1;have p':a+(⟨#[c]⟩:Str).length<=x.length:=p;rw[if_pos (show((((A,fr):Array Nat×Nat).fst.size<x.length+1/\((A,fr):Array Nat×Nat).snd<=a)/\a+(⟨#[c]⟩:Str).length<=x.length)/\subAt x ⟨#[c]⟩ a=true from⟨⟨⟨by show A.size<_;omega,h1⟩,p⟩,q⟩)]
   have ih:=i3 x c n (a+1) (A.push a) (a+1) (Aa6 _) (by omega) (by simp;omega)
   have e:x.cps.toList.drop a=c::x.cps.toList.drop (a+1):=by
    rw[List.drop_eq_getElem_cons hl];rw[Aa2 hl]at hc;rw[Ab3 hc]
   rw[e,List.count_cons_self];refine Eq.trans ih ?_;rw[Array.size_push];omega
  ·rw[if_neg (show ¬(((((A,fr):Array Nat×Nat).fst.size<x.length+1/\((A,fr):Array Nat×Nat).snd<=a)/\a+(⟨#[c]⟩:Str).length<=x.length)/\subAt x ⟨#[c]⟩ a=true) from λh=>hc (so.mp ⟨h.1.2,h.2⟩))]
   have ih:=i3 x c n (a+1) A fr (by omega) (by omega) (by omega)
   refine Eq.trans ih ?_;by_cases hl:a<x.cps.toList.length
   ·rw[List.drop_eq_getElem_cons hl,List.count_cons];rw[Aa2 hl]at hc
    have:(x.cps.toList[a]==c)=false:=by
     cases hb:(x.cps.toList[a]==c) with
     | false=>rfl
     | true=>exact absurd (congrArg some (eq_of_beq hb)) hc
    rw[this];rfl
   ·rw[List.drop_eq_nil_of_le (by omega),List.drop_eq_nil_of_le (by omega)]
theorem bK9 (x:Str)(c:Nat):(occurrences x ⟨#[c]⟩ 0 x.length (x.length+1)).length=x.cps.toList.count c:=by
 rw[StrLaws.occ_eq,Array.length_toList,show x.length+1-0=x.length+1 from rfl,i3 x c (x.length+1) 0 #[] 0 (Aa6 _) (by omega) (by simp)]
 simp
section
variable {X:Cx}
def Y9 (x:V)(xs:List V)(H:Hp)(Q:VK):Prop:=∃(i:Str) (c:Nat),x=.str i/\xs=[.str ⟨#[c]⟩]/\Q (.int (i.cps.toList.count c:Nat)) H
theorem J0:MtR X "str.count" Y9:=by
 intro pins s σ H x xs v us Q I rx rv ⟨i,c,e1,e2,q⟩;subst e1;subst e2;obtain ⟨t,rfl⟩:=rx;obtain ⟨u,rfl,t',rfl⟩:=u5 rv;refine call_gives F.slot_str_count (typeIs_str s i t) F.entry_str_count (F.args_str_count_2 _ _) (gives_str_count i ⟨#[c]⟩ t t') ?_;rw[bK9];exact⟨.int _,H,I.tok _,⟨_,rfl⟩,q⟩
end
end L2
namespace LV
open PySem PySem.Spec PyProof.Rows L2
def sb (w:List Bool):Str:=⟨(w.map λb=>if b=true then 117 else 100).toArray⟩
theorem aZ7:∀w:List Bool,(sb w).cps.toList.count 100=w.count false
 | []=>rfl
 | b::w=>by
  have ih:=aZ7 w
  unfold sb at ih ⊢;simp only[Ac2,List.count_cons]at ih ⊢;cases b <;> simp[List.count_cons] <;> simpa using ih
theorem cA5 (w:List Bool):PyData.strOk (sb w)=true:=by
 unfold PyData.strOk sb;simp only[List.all_toArray,List.all_map,Ac4];intro b _;cases b <;> rfl
section
variable {K:PySem.W.Frag}{ρ:List Sl}{m:Bool}{t ta tb:TE}{d d':PyData}{ds es:List PyData}
theorem bJ8 {x:Str}(w:List Bool)(h:x=sb w):E K m (tC (.str x)) ρ (.str (sb w)):=h▸Z7
theorem bI3 {a:List Bool}(ha:E K false ta ρ (.str (sb a)))(hb:E K false tb ρ (.str (sb [false]))):E K m (tBM K "str" Y9 ta (G5 tb i5)) ρ (.int (a.count false:Nat)):=E.bor (E.imm (m:=false) λS B σ H o I Q q=>ha S B σ H o I _ λv H1 s1 r=>by
 cases r
 refine⟨rfl,?_⟩;refine hb S B σ H1 o (I.grow s1) _ λu H2 s2 r2=>?_
 cases r2
 refine⟨_,100,rfl,rfl,?_⟩;rw[aZ7];exact q _ H2 (L2.Same.tr s1 s2) (.int _))
end
end LV
namespace L2
open PySem PySem.Spec PyProof.Rows
def Fly (h0:Heap)(H:Hp)(x:Addr)(cls:Value)(h:Heap):Prop:=
 ∃a0 oe vs T oT ts,h0.get? x=none/\h0.get? T=none/\H x=none/\H T=none/\h.get? x=some oe/\(oe.cls=cls/\vs[0]? = some a0)/\oe.data=.fields vs/\vs[1]? = some (.ref T)/\T≠x/\h.get? T=some oT/\oT.data=.fields ts/\ts[3]? = some .none
section
variable {P:Program}{w:World}{H H':Hp}{h h1 h2:Heap}{fs B:List Addr}
theorem bC0 (u:Un fs [] H H' h h1)(hB:∀b∈B,h.get? b=none)(k:∀b o,h1.get? b=some o->b∉fs->b∉B->h2.get? b=some o)(ks:∀b o,h1.get? b=some o->b∈fs->∃sl,h2.get? b=some {o with slots:=sl}):Un fs [] H H' h h2 where
 keep:=λb o e n hb hx=>k b o (u.keep b o e n hb hx) hb λz=>by rw[hB b z]at e;cases e
 slot:=λb o e n hb hx=>by
  obtain ⟨sl,e1⟩:=u.slot b o e n hb hx;obtain ⟨sl',e2⟩:=ks b _ e1 hb;exact⟨sl',e2⟩
 free:=u.free
 there:=λb o e hx=>by
  obtain ⟨o',e1⟩:=u.there b o e hx;by_cases hb:b∈fs
  ·obtain ⟨sl,e2⟩:=ks b o' e1 hb;exact⟨_,e2⟩
  ·exact⟨o',k b o' e1 hb λz=>by rw[hB b z]at e;cases e⟩
 tups:=u.tups
 frzs:=u.frzs
 tbls:=u.tbls
theorem aP4 (hok:HOk P w H h1)(hfs:∀b∈fs,H b=none)(hB:∀b∈B,H b=none)(k:∀b o,h1.get? b=some o->b∉fs->b∉B->h2.get? b=some o):HOk P w H h2:=λa o e=>
 (hok a o e).stay (λb u hb q=>by
  have ht:∃y,H b=some y:=by
   rcases hb with rfl | hb
   ·exact⟨_,e⟩
   ·exact⟨_,hb⟩
  obtain ⟨y,hy⟩:=ht;refine k b u q (λz=>?_) λz=>?_
  ·rw[hfs b z]at hy;cases hy
  ·rw[hB b z]at hy;cases hy) (λ_ q=>q) λ_ _ q=>q
theorem X7 {a:Addr}{o:HO}(x:ObjOk P w H h a o):∃ob,h.get? a=some ob:=by
 cases o with
 | lst xs=>obtain ⟨_,_,_,_,e⟩:=x;exact⟨_,e⟩
 | tup xs=>obtain ⟨_,_,_,o,e,_⟩:=x;exact⟨_,e⟩
 | dK kvs=>obtain ⟨_,_,_,_,o,_,_,e,_⟩:=x;exact⟨_,e⟩
 | dT kvs=>obtain ⟨_,_,_,_,o,_,_,e,_⟩:=x;exact⟨_,e⟩
 | set S n=>obtain ⟨o,_,_,_,e,_⟩:=x;exact⟨_,e⟩
 | ins C dx fs=>obtain ⟨_,_,_,e,_⟩:=x;exact⟨_,e⟩
 | own y=>obtain ⟨_,e⟩:=x;exact⟨_,e⟩
 | xd fs=>obtain ⟨_,⟨_,_,_,e,_⟩,_⟩:=x;exact⟨_,e⟩
 | rng lo hi=>obtain ⟨_,_,_,e⟩:=x;exact⟨_,e⟩
 | frz ob u=>obtain ⟨e,_⟩:=x;exact⟨_,e⟩
 | tbl ps=>exact⟨_,show h.get? a=some _ from x⟩
 | met f y=>exact⟨_,show h.get? a=some _ from x⟩
 | ext φ=>obtain ⟨_,e,_⟩:=x;exact e
theorem O3 {base:Heap}{D:List Addr}:∀{l:List Env},h.FunFrames base l->(∀b∈frs l,b∈D)->h.FunFrames (PySem.W.hideAll h1 D) l
 | [],_,_=>trivial
 | env::rest,⟨hk,⟨L,o,hf,hn,ho,hd⟩,hr⟩,hD=>by
  have hL:L∈frs (env::rest):=by unfold frs;rw[List.filterMap_cons,hf];exact List.mem_cons_self ..
  refine⟨hk,⟨L,o,hf,PySem.W.hideAll_none _ (hD L hL),ho,hd⟩,O3 hr λb hb=>hD b ?_⟩
  unfold frs at hb ⊢;rw[List.filterMap_cons,hf];exact Ac8 _ hb
end
section
variable {P:Program}{w:World}{M:Model}{A:Around}{E:Value->Shared->Prop}{s:Shared}{H0 H:Hp}{h0 base:Heap}{env:Env}{outer:List Env}{L x:Addr}{cls:Value}{Q:Unit->Shared->Prop}
theorem aP5 (hfr:A.frames=some (env::outer))(hf:env.frame=some L)(hl:s.heap.FunFrames base (env::outer))(F:Fly h0 H x cls s.heap)(hth:∀b o,h0.get? b=some o->∃o',s.heap.get? b=some o')(hok:HOk P w H s.heap)
  (hQ:∀(h2:Heap) (B:List Addr),(∀b∈B,h0.get? b=none/\H b=none)->(∀b o,s.heap.get? b=some o->b∉frs (env::outer)->b∉B->h2.get? b=some o)->(∀b o,s.heap.get? b=some o->b∈frs (env::outer)->∃sl,h2.get? b=some {o with slots:=sl})->Fly h0 H x cls h2->Q () {s with heap:=h2}) :
  wpAny M A (leaving env (.ref x)) Q E s:=by
 obtain ⟨a0,oe,vs,T,oT,ts,n1,n2,n3,n4,hx,hc,hd,h1,hTx,hT,hdT,h3⟩:=F;have hfields:∀b∈frs (env::outer),∃o,s.heap.get? b=some o/\∀vs,o.data≠.fields vs:=λb hb=>(hl.mem hb).2
 refine wpAny_leaves_onW (base:=PySem.W.hideAll s.heap (x::T::frs (env::outer))) (cls:=cls) (a0:=a0) hfr hf ⟨λb o e=>PySem.W.of_hideAll _ e,PySem.W.hideAll_none _ (List.mem_cons_self ..),O3 hl λb hb=>Ac8 _ (Ac8 _ hb),oe,vs,T,oT,ts,hx,hc,hd,h1,PySem.W.hideAll_none _ (Ac8 _ (List.mem_cons_self ..)),hTx,hT,hdT,h3⟩ λh2 hfl hup=>?_
 obtain ⟨k1,_,_,oe',vs',T',oT',ts',e1,e2,e3,e4,e5,e6,e7,e8,e9⟩:=hfl;have ks:∀b o,s.heap.get? b=some o->b∈frs (env::outer)->∃sl,h2.get? b=some {o with slots:=sl}:=λb o e hb=>by
  obtain ⟨o',e',hnf⟩:=hfields b hb;rw[e]at e';cases e';exact hup b o e hnf
 refine hQ h2 [x,T] (λb hb=>?_) (λb o e hb hB=>k1 b o (PySem.W.hideAll_get _ e ?_)) ks ⟨a0,oe',vs',T',oT',ts',n1,?_,n3,?_,e1,e2,e3,e4,e6,e7,e8,e9⟩
 ·rcases Aa1.mp hb with rfl | hb
  ·exact⟨n1,n3⟩
  ·rw[Ad1.mp hb];exact⟨n2,n4⟩
 ·intro z;rcases Aa1.mp z with z | z
  ·exact hB (z▸List.mem_cons_self ..)
  ·rcases Aa1.mp z with z | z
   ·exact hB (z▸Ac8 _ (List.mem_cons_self ..))
   ·exact hb z
 all_goals
  by_cases hb:T'∈x::T::frs (env::outer)
  ·rcases Aa1.mp hb with z | z
   ·exact absurd z e6
   ·rcases Aa1.mp z with z | z
    ·first | exact z▸n2 | exact z▸n4
    ·exfalso
     obtain ⟨o',e',hnf⟩:=hfields T' z;obtain ⟨sl,q⟩:=ks T' o' e' z;rw[e7]at q;have q:=Ab3 q;subst q;exact hnf ts' e8
  ·first
    | (cases q:h0.get? T' with
     | none=>rfl
     | some o=>
      obtain ⟨o',q'⟩:=hth T' o q;rw[PySem.W.hideAll_get _ q' hb]at e5;cases e5)
    | (cases q:H T' with
     | none=>rfl
     | some u=>
      obtain ⟨o',q'⟩:=X7 (hok T' u q);rw[PySem.W.hideAll_get _ q' hb]at e5;cases e5)
theorem bD9 {h:Heap}{args:List Value}(hfr:A.frames=some (env::outer))(hf:env.frame=some L)(hl:h.FunFrames base (env::outer))(hx:Heap.MadeExcOf h s.heap x cls args)(hth:∀b o,h0.get? b=some o->∃o',h.get? b=some o')(hok:HOk P w H h)
  (hQ:∀(h2:Heap),(∀b o,h.get? b=some o->b∉frs (env::outer)->h2.get? b=some o)->(∀b o,h.get? b=some o->b∈frs (env::outer)->∃sl,h2.get? b=some {o with slots:=sl})->Fly h0 H x cls h2->Q () {s with heap:=h2}) :
  wpAny M A (leaving env (.ref x)) Q E s:=by
 have hfields:∀b∈frs (env::outer),∃o,h.get? b=some o/\∀vs,o.data≠.fields vs:=λb hb=>(hl.mem hb).2
 have new0:∀b,h.get? b=none->h0.get? b=none/\H b=none:=λb e=>by
  constructor
  ·cases q:h0.get? b with
   | none=>rfl
   | some o=>obtain ⟨o',q'⟩:=hth b o q;rw[e]at q';cases q'
  ·cases q:H b with
   | none=>rfl
   | some u=>obtain ⟨o',q'⟩:=X7 (hok b u q);rw[e]at q';cases q'
 refine wpAny_leaves_madeW (base:=PySem.W.hideAll h (frs (env::outer))) hfr hf (λb o e=>PySem.W.of_hideAll _ e) (O3 hl λb hb=>hb) hx λh2 t hfl _ _ hup=>?_
 obtain ⟨k1,_,_,oe',vs',T',oT',ts',e1,e2,e3,e4,e5,e6,e7,e8,e9⟩:=hfl;have ks:∀b o,h.get? b=some o->b∈frs (env::outer)->∃sl,h2.get? b=some {o with slots:=sl}:=λb o e hb=>by
  obtain ⟨o',e',hnf⟩:=hfields b hb;rw[e]at e';cases e';exact hup b o (hx.keeps b o e) hnf
 have hT:h.get? T'=none:=by
  cases q:h.get? T' with
  | none=>rfl
  | some o=>
   by_cases hb:T'∈frs (env::outer)
   ·obtain ⟨o',e',hnf⟩:=hfields T' hb;obtain ⟨sl,q⟩:=ks T' o' e' hb;rw[e7]at q;have q:=Ab3 q;subst q;exact absurd e8 (hnf ts')
   ·rw[PySem.W.hideAll_get _ q hb]at e5;cases e5
 exact hQ h2 (λb o e hb=>k1 b o (PySem.W.hideAll_get _ e hb)) ks ⟨_,oe',vs',T',oT',ts',(new0 x hx.new).1,(new0 T' hT).1,(new0 x hx.new).2,(new0 T' hT).2,e1,e2,e3,e4,e6,e7,e8,e9⟩
end
section
variable {P:Program}{w:World}{K:PySem.W.Frag}{mg:Str->Option Value}{base:Heap}{N:List Str}{qual:Str}{scope:Scope}{f:Addr}{cd:Value}{A:Around}{outer:List Env}{s:Shared}{H:Hp}{E:XK}
theorem bF4 {env:Env}{L:Addr}(h:env.frame=some L):frs (env::outer)=L::frs outer:=by unfold frs;rw[List.filterMap_cons,h]
end
abbrev bmV:List Value:=[.type "ValueError",.type "Exception",.type "BaseException",.type "object"]
theorem aF0 {K:PySem.W.Frag}{h:Heap}{C:Addr}{bmB:List Value}{newId:String}(X:K.In h)(q:PySem.W.excIn K C bmB newId=true) :
  ∃bm N nm qn bs hdct sn sub ab col dd k0 k1 k2 k3 k5 mN,h.get? C=some (excClassObj nm qn C N bs bm hdct sn sub ab col dd k0 k1 k2 k3 k5 newId)/\h.Ns N mN/\mN "__init__" = none/\OwnTail h bmB bm:=by
 unfold PySem.W.excIn at q;split at q
 ·rename_i dd cd sl ho;split at q
  ·rename_i C' bm k0 k1 k2 k3 n k5 hm hs;simp only[Bool.and_eq_true,beq_iff_eq,Bool.not_eq_true']at q;obtain ⟨⟨⟨⟨⟨rfl,rfl⟩,hdel⟩,ht⟩,hok⟩,hni⟩:=q;obtain ⟨nm,bs,mro,ns,qn,hd,sn,sub,ab,col,del⟩:=cd;dsimp only at hm hdel hok hni;subst hm hdel;have hsl:sl = #[k0,k1,k2,k3,some (.builtin n),k5]:=by
    obtain ⟨l⟩:=sl;simp only at hs;rw[hs]
   subst hsl;exact⟨bm,ns,nm,qn,bs,hd,sn,sub,ab,col,dd,k0,k1,k2,k3,k5,_,X _ _ ho,.of_isNs (PySem.W.isNs_of_in X hok),PySem.W.nsMap_none_of_in X hok hni,PySem.W.tail_of_in X ht⟩
  ·cases q
 ·cases q
section
variable {X:Cx}
def bB4 (EX:Hp->Prop)(t:TA):TS:=λ_ σ H=>t σ H λvs H1=>vs.length<=1000/\EX H1
theorem bI7 {x:Str}{C:Addr}{e0:Expr}{rest:List Expr}{t:TA}{EX:Hp->Prop}{np cpos pos:Pos}(hg:Gl X x)(hm:X.mg x=some (.ref C))(hC:PySem.W.excIn X.K C bmV "ValueError.__new__" = true)(hc:X.calm=true)(ha:PA X (e0::rest) t)
  (hX:∀(pins:List (Addr×Obj)) (σ:St) (H:Hp) (s:Shared) (h':Heap) (y:Addr) (vs:List Value),Inv X pins σ H s->Heap.MadeExcOf s.heap h' y (.ref C) vs->EX H->X.xe (.ref y) {s with heap:=h'}) (hdb:(x==("__debug__" : Str))=false:=by decide)
  (he:starEach (e0::rest) X.env=(false,eval e0 X.env)::starEach rest X.env:=by rfl) (hpl:(backTo cpos (starEach rest X.env)).any (·.1)=false:=by rfl):PS X (.Raise (some (.Call (.Name x np) (e0::rest) [] cpos)) none pos) (bB4 EX t):=by
 refine⟨?_⟩;intro pins s σ H D I h;obtain ⟨bm,N,nm,qn,bs,hdct,sn,sub,ab,col,dd,k0,k1,k2,k3,k5,mN,o1,o2,o3,o4⟩:=aF0 I.ok.mod.kin hC;refine wpAny_Raise_call_subU (C:=C) (nm:=nm) (q:=qn) (N:=N) (bs:=bs) (bm:=bm) (hdct:=hdct) (sn:=sn) (sub:=sub) (ab:=ab) (col:=col) (dd:=dd) (k0:=k0) (k1:=k1) (k2:=k2) (k3:=k3) (k5:=k5) (newId := "ValueError.__new__") F.excBase_ValueError (by decide) F.excBase_ValueError (mN:=mN) (o4.hasType F.excBase_ValueError.hasBase) (I.ok.hd hc) (by rw[he];show(false||(backTo cpos (starEach rest X.env)).any (·.1))=false;rw[hpl];rfl) o3 (Z1 I hg hm ⟨rfl,?_⟩ hdb)
 have hh:=ha cpos pins s σ H _ I h
 rw[he]at hh ⊢;refine Calls.evalArgs_plain (wpAny_mono hh (λvs s2 h2=>?_) λ_ _ y=>y)
 obtain ⟨us,H1,I1,r1,hl,q⟩:=h2;refine⟨rfl,?_,I1.bk _ _ o1,o2.keeps I1.bk,o4.keeps I1.bk,λh' e hm=>hX pins σ H1 s2 h' e vs I1 hm q⟩
 have:=r1.length
 show vs.length<=sizeLine
 unfold sizeLine;omega
end
open Sem (wp)
def Tame {α:Type}:Sem α->Prop
 | .pure _=>True
 | .raise _=>True
 | .unsupported _=>True
 | .finish _=>True
 | .rule _ k=>Tame (k ())
 | .at _ k=>Tame (k ())
 | .load _ _ k=>∀o,Tame (k o)
 | .update _ _ f k=>(∀o:Obj,(f o).dict=o.dict)/\Tame (k ())
 | .alloc _ k=>∀a,Tame (k a)
 | .loadIfAlive _ k=>∀o,Tame (k o)
 | .point _ k=>Tame (k ())
 | .fresh k=>∀t,Tame (k t)
 | .ask k=>∀x,Tame (k x)
 | .handled _ k=>∀x,Tame (k x)
 | .stack k=>∀x,Tame (k x)
 | .thread k=>∀x,Tame (k x)
 | .genState _ k=>∀x,Tame (k x)
 | _=>False
def Kd (h h':Heap):Prop:=∀(b:Nat) (o:Obj),h.objs[b]? = some o->∃o':Obj,h'.objs[b]? = some o'/\o'.dict=o.dict
theorem Kd.rf (h:Heap):Kd h h:=λb o e=>⟨o,e,rfl⟩
theorem Kd.tr {h h1 h2:Heap}(a:Kd h h1)(b:Kd h1 h2):Kd h h2:=λc o e=>by
 obtain ⟨o1,e1,d1⟩:=a c o e;obtain ⟨o2,e2,d2⟩:=b c o1 e1;exact⟨o2,e2,d2.trans d1⟩
theorem aT4 (h:Heap)(o:Obj):Kd h (h.push o):=λb o' e=>⟨o',by
 have hb:=(Array.getElem?_eq_some_iff.mp e).1
 show(h.objs.push o)[b]? = some o'
 rw[Array.getElem?_push_lt hb];rw[Array.getElem?_eq_getElem hb]at e;exact e,rfl⟩
theorem aF2 (h:Heap)(a:Addr)(f:Obj->Obj)(hf:∀o,(f o).dict=o.dict):Kd h (h.update a f):=λb o e=>by
 by_cases c:b=a
 ·subst c;refine⟨f o,?_,hf o⟩;show(h.objs.modify b f)[b]? = _;rw[Array.getElem?_modify,if_pos rfl,e];rfl
 ·refine⟨o,?_,rfl⟩;show(h.objs.modify a f)[b]? = _;rw[Array.getElem?_modify,if_neg (λz=>c z.symm),e]
section
variable {α β:Type}{M:Model}{Γ : PySem.Ctx}
theorem bN1:∀(t:Sem α) (Q:α->Pos->Shared->Prop) (E:Value->Pos->Shared->Prop) (p:Pos) (s:Shared),Tame t->wp M Γ t Q E p s->wp M Γ t (λa p' s'=>Q a p' s'/\Kd s.heap s'.heap) (λe p' s'=>E e p' s'/\Kd s.heap s'.heap) p s:=by
 intro t;induction t with
 | pure a=>intro Q E p s _ h;rw[wp]at h ⊢;exact⟨h,Kd.rf _⟩
 | raise e=>intro Q E p s _ h;rw[wp]at h ⊢;exact⟨h,Kd.rf _⟩
 | unsupported w=>intro Q E p s _ h;rw[wp]at h;exact h.elim
 | finish e=>intro Q E p s _ h;rw[wp]at h;exact h.elim
 | rule tag k ih=>intro Q E p s c h;rw[wp]at h ⊢;exact ih () Q E p s c h
 | «at» pos k ih=>intro Q E p s c h;rw[wp]at h ⊢;exact ih () Q E pos s c h
 | load a part k ih=>intro Q E p s c h;rw[wp]at h ⊢;obtain ⟨o,e,h⟩:=h;exact⟨o,e,ih o Q E p s (c o) h⟩
 | update a part f k ih=>
  intro Q E p s c h;rw[wp]at h ⊢;refine⟨h.1,Sem.wp_mono M Γ _ (λ_ p' s' z=>⟨z.1,(aF2 s.heap a f c.1).tr z.2⟩) (λ_ p' s' z=>⟨z.1,(aF2 s.heap a f c.1).tr z.2⟩) _ _ (ih () Q E p _ c.2 h.2)⟩
 | alloc o k ih=>
  intro Q E p s c h;rw[wp]at h ⊢;exact Sem.wp_mono M Γ _ (λa p' s' z=>⟨z.1,(aT4 s.heap o).tr z.2⟩) (λe p' s' z=>⟨z.1,(aT4 s.heap o).tr z.2⟩) _ _ (ih _ Q E p _ (c _) h)
 | loadIfAlive a k ih=>intro Q E p s c h;rw[wp]at h ⊢;exact ih _ Q E p s (c _) h
 | point l k ih=>intro Q E p s c h;rw[wp]at h ⊢;exact ih () Q E p s c h
 | register a k ih=>intro Q E p s c h;exact c.elim
 | fresh k ih=>intro Q E p s c h;rw[wp]at h ⊢;exact ih _ Q E p _ (c _) h
 | ask k ih=>intro Q E p s c h;rw[wp]at h ⊢;exact ih _ Q E p s (c _) h
 | choose src n k ih=>intro Q E p s c h;exact c.elim
 | os q l k ih=>intro Q E p s c h;exact c.elim
 | call c' h' g l k ih=>intro Q E p s c h;exact c.elim
 | handled own k ih=>intro Q E p s c h;rw[wp]at h ⊢;exact ih _ Q E p s (c _) h
 | newGen c' k ih=>intro Q E p s c h;exact c.elim
 | genState g k ih=>intro Q E p s c h;rw[wp]at h ⊢;obtain ⟨st,e,h⟩:=h;exact⟨st,e,ih _ Q E p s (c _) h⟩
 | resume g r l k ih=>intro Q E p s c h;exact c.elim
 | yield v g l k ih=>intro Q E p s c h;exact c.elim
 | stack k ih=>intro Q E p s c h;rw[wp]at h ⊢;exact ih _ Q E p s (c _) h
 | fork c' k ih=>intro Q E p s c h;exact c.elim
 | thread k ih=>intro Q E p s c h;rw[wp]at h ⊢;exact ih _ Q E p s (c _) h
 | await a tk ti l k ih=>intro Q E p s c h;exact c.elim
theorem X3 {A:Around}{t:Sem α}{Q:α->Shared->Prop}{E:Value->Shared->Prop}{s:Shared}(c:Tame t)(h:wpAny M A t Q E s):wpAny M A t (λa s'=>Q a s'/\Kd s.heap s'.heap) (λe s'=>E e s'/\Kd s.heap s'.heap) s:=λ Γ p hΓ=>bN1 t _ _ p s c (h Γ p hΓ)
theorem Tame.bind {t:Sem α}{f:α->Sem β}(h:Tame t)(hf:∀a,Tame (f a)):Tame (t >>= f):=by
 show Tame (t.bind f)
 induction t with
 | pure a=>exact hf a
 | raise e=>trivial
 | unsupported w=>trivial
 | finish e=>trivial
 | rule tag k ih=>exact ih () h
 | «at» pos k ih=>exact ih () h
 | load a part k ih=>exact λo=>ih o (h o)
 | update a part g k ih=>exact⟨h.1,ih () h.2⟩
 | alloc o k ih=>exact λa=>ih a (h a)
 | loadIfAlive a k ih=>exact λo=>ih o (h o)
 | point l k ih=>exact ih () h
 | fresh k ih=>exact λa=>ih a (h a)
 | ask k ih=>exact λa=>ih a (h a)
 | handled own k ih=>exact λa=>ih a (h a)
 | stack k ih=>exact λa=>ih a (h a)
 | thread k ih=>exact λa=>ih a (h a)
 | genState g k ih=>exact λa=>ih a (h a)
 | register a k ih=>exact h.elim
 | choose src n k ih=>exact h.elim
 | os q l k ih=>exact h.elim
 | call c' h' g l k ih=>exact h.elim
 | newGen c' k ih=>exact h.elim
 | resume g r l k ih=>exact h.elim
 | yield v g l k ih=>exact h.elim
 | fork c' k ih=>exact h.elim
 | await a tk ti l k ih=>exact h.elim
end
end L2
namespace L2
open PySem PySem.Spec PyProof.Rows
theorem aC1 (v:Value):Tame (fieldsOf v):=by
 unfold fieldsOf;split
 ·refine Tame.bind (λo=>trivial) λo=>?_
  split <;> trivial
 ·trivial
theorem R7 (v:Value)(i:Nat):Tame (field v i):=by
 unfold field;refine Tame.bind (aC1 v) λvs=>?_
 split <;> trivial
theorem Q4 (v:Value)(i:Nat)(x:Value):Tame (setField v i x):=by
 unfold setField;split
 ·unfold updateField;refine Tame.bind (λo=>trivial) λo=>?_
  split
  ·split
   ·exact⟨λo=>by unfold Obj.mapFields;split <;> rfl,trivial⟩
   ·trivial
  ·trivial
 ·trivial
theorem O1 (e:Value)(f:Option Addr):Tame (setFlight e f):=by
 unfold setFlight;refine Tame.bind (R7 e 1) λtb=>?_
 split
 ·exact Q4 _ _ _
 ·trivial
theorem aB0 (ty:String)(vs:List Value):Tame (newFields ty vs):=by
 have h:Tame (newObjAsIs (.type ty) (.fields vs.toArray)):=by
  unfold newObjAsIs;exact Tame.bind (λa=>trivial) λa=>trivial
 unfold newFields newObj;dsimp only;split
 ·exact Tame.bind trivial λ_=>h
 ·exact h
theorem aC3 (a b c d e:Value)(p:List Value):Tame (EntryCells.newEntry a b c d e p):=aB0 _ _
theorem a5:Tame stack:=λ_=>trivial
theorem aR0 (f:Addr)(b:Bool):Tame (entryPlaceOf f b):=by
 unfold entryPlaceOf;refine Tame.bind a5 λacts=>?_
 split <;> trivial
theorem aA0:Tame frameEnvs:=by
 unfold frameEnvs;exact Tame.bind a5 λ_=>trivial
theorem aC5 (env:Env)(b:Bool)(l:List Env):Tame (keptBack env b l):=by
 unfold keptBack;split
 ·split
  ·trivial
  ·unfold underTheClaimsCaller;exact Tame.bind (Tame.bind a5 λ_=>trivial) λ_=>trivial
 ·trivial
theorem aO2 (env:Env)(l:List Env):Tame (behindIsImport env l):=by
 unfold behindIsImport;split
 ·trivial
 ·split
  ·trivial
  ·exact Tame.bind (R7 _ _) λ_=>trivial
theorem aA7:∀l:List Env,Tame (readyFrames l)
 | []=>trivial
 | env::outer=>by
  unfold readyFrames;split
  ·refine Tame.bind (λo=>trivial) λo=>?_
   split
   ·trivial
   ·exact Tame.bind (aO2 env outer) λi=>Tame.bind (aC5 env i outer) λb=>Tame.bind ⟨λo=>rfl,trivial⟩ λ_=>aA7 outer
  ·trivial
theorem t3 (l:List Env):Tame (frameObject l):=by
 unfold frameObject;split
 ·trivial
 ·exact Tame.bind (aA7 _) λ_=>trivial
theorem aJ8 (env:Env):Tame (PySem.frameOf env):=by
 unfold PySem.frameOf;refine Tame.bind aA0 λl=>Tame.bind (t3 _) λo=>?_
 split <;> trivial
theorem aD9 (env:Env)(e:Value):Tame (noteFrame e env):=by
 unfold noteFrame;split
 ·refine Tame.bind (R7 e 1) λhead=>?_
  have last:∀f:Addr,Tame (do setField e 1 (<- EntryCells.newEntry head (<- PySem.frameOf env) .none (rawInt f) .none (<- entryPlaceOf f (head != .none)))):=λf=>Tame.bind (aJ8 env) λa=>Tame.bind (aR0 f _) λp=>Tame.bind (aC3 _ _ _ _ _ _) λb=>Q4 _ _ _
  dsimp only
  split
  ·refine Tame.bind (R7 head 3) λz=>?_
   split
   ·trivial
   ·exact Tame.bind (Q4 _ _ _) λ_=>last _
  ·exact last _
 ·trivial
theorem p7 (env:Env)(e:Value):Tame (leaving env e):=Tame.bind (aD9 env e) λ_=>O1 e none
structure Mv (fs B:List Addr)(h h':Heap):Prop where
 k:∀b o,h.get? b=some o->b∉fs->b∉B->h'.get? b=some o
 s:∀b o,h.get? b=some o->b∈fs->∃sl,h'.get? b=some {o with slots:=sl}
section
variable {P:Program}{w:World}{H:Hp}{h h0 h2 base:Heap}{l:List Env}{x T:Addr}{cls a0:Value}
theorem aO7 (hl:h.FunFrames base l)(hth:∀b o,h0.get? b=some o->∃o',h.get? b=some o')(hok:HOk P w H h)(n1:h0.get? x=none)(n2:h0.get? T=none)(n3:H x=none)(n4:H T=none)
  (k1:(PySem.W.hideAll h (x::T::frs l)).StaysIn h2) (tr:h2.TracedW (PySem.W.hideAll h (x::T::frs l)) x cls a0) (hup:h.UpToSlots h2):Mv (frs l) [x,T] h h2/\Fly h0 H x cls h2:=by
 obtain ⟨oe',vs',T',oT',ts',e1,e2,e3,e4,e5,e6,e7,e8,e9⟩:=tr;have hfields:∀b∈frs l,∃o,h.get? b=some o/\∀vs,o.data≠.fields vs:=λb hb=>(hl.mem hb).2
 have ks:∀b o,h.get? b=some o->b∈frs l->∃sl,h2.get? b=some {o with slots:=sl}:=λb o e hb=>by
  obtain ⟨o',e',hnf⟩:=hfields b hb;rw[e]at e';cases e';exact hup b o e hnf
 refine⟨⟨λb o e hb hB=>k1 b o (PySem.W.hideAll_get _ e ?_),ks⟩,a0,oe',vs',T',oT',ts',n1,?_,n3,?_,e1,e2,e3,e4,e6,e7,e8,e9⟩
 ·intro z;rcases Aa1.mp z with z | z
  ·exact hB (z▸List.mem_cons_self ..)
  ·rcases Aa1.mp z with z | z
   ·exact hB (z▸Ac8 _ (List.mem_cons_self ..))
   ·exact hb z
 all_goals
  by_cases hb:T'∈x::T::frs l
  ·rcases Aa1.mp hb with z | z
   ·exact absurd z e6
   ·rcases Aa1.mp z with z | z
    ·first | exact z▸n2 | exact z▸n4
    ·exfalso
     obtain ⟨o',e',hnf⟩:=hfields T' z;obtain ⟨sl,q⟩:=ks T' o' e' z;rw[e7]at q;have q:=Ab3 q;subst q;exact hnf ts' e8
  ·first
    | (cases q:h0.get? T' with
     | none=>rfl
     | some o=>
      obtain ⟨o',q'⟩:=hth T' o q;rw[PySem.W.hideAll_get _ q' hb]at e5;cases e5)
    | (cases q:H T' with
     | none=>rfl
     | some u=>
      obtain ⟨o',q'⟩:=X7 (hok T' u q);rw[PySem.W.hideAll_get _ q' hb]at e5;cases e5)
end
section
variable {P:Program}{w:World}{M:Model}{A A':Around}{E E':Value->Shared->Prop}{s:Shared}{H:Hp}{h0 base:Heap}{env:Env}{outer:List Env}{L x:Addr}{cls:Value}{Q:Unit->Shared->Prop}
theorem aX5 (hfr:A.frames=some (env::outer))(hf:env.frame=some L)(hl:s.heap.FunFrames base (env::outer))(F:Fly h0 H x cls s.heap)(hth:∀b o,h0.get? b=some o->∃o',s.heap.get? b=some o')(hok:HOk P w H s.heap)
  (hQ:∀(h2:Heap) (B:List Addr),(∀b∈B,h0.get? b=none/\H b=none)->Mv (frs (env::outer)) B s.heap h2->Fly h0 H x cls h2->Q () {s with heap:=h2}) :
  wpAny M A (noteFrame (.ref x) env) (λ_ s2=>wpAny M A (setFlight (.ref x) none) Q E s2) E s:=by
 obtain ⟨a0,oe,vs,T,oT,ts,n1,n2,n3,n4,hx,hc,hd,h1,hTx,hT,hdT,h3⟩:=F;refine wpAny_looks_onW (base:=PySem.W.hideAll s.heap (x::T::frs (env::outer))) (cls:=cls) (a0:=a0) hfr hf ⟨λb o e=>PySem.W.of_hideAll _ e,PySem.W.hideAll_none _ (List.mem_cons_self ..),O3 hl λb hb=>Ac8 _ (Ac8 _ hb),oe,vs,T,oT,ts,hx,hc,hd,h1,PySem.W.hideAll_none _ (Ac8 _ (List.mem_cons_self ..)),hTx,hT,hdT,h3⟩ λh4 hh hup4=>?_
 refine wpAny_landsW hh λh5 hfl hup5=>?_
 obtain ⟨mv,F2⟩:=aO7 (P:=P) (w:=w) hl hth hok n1 n2 n3 n4 hfl.1 hfl.2.2.2 (hup4.trans hup5);refine hQ h5 [x,T] (λb hb=>?_) mv F2
 rcases Aa1.mp hb with rfl | hb
 ·exact⟨n1,n3⟩
 ·rw[Ad1.mp hb];exact⟨n2,n4⟩
theorem aX2 (hl:s.heap.FunFrames base (env::outer))(F:Fly h0 H x cls s.heap)(hth:∀b o,h0.get? b=some o->∃o',s.heap.get? b=some o')(hok:HOk P w H s.heap)
  (hQ:∀(h2:Heap) (B:List Addr),(∀b∈B,h0.get? b=none/\H b=none)->Mv (frs (env::outer)) B s.heap h2->Fly h0 H x cls h2->Q () {s with heap:=h2}) :
  wpAny M A (setFlight (.ref x) none) Q E s:=by
 obtain ⟨a0,oe,vs,T,oT,ts,n1,n2,n3,n4,hx,hc,hd,h1,hTx,hT,hdT,h3⟩:=F;refine lands_againW (base:=PySem.W.hideAll s.heap (x::T::frs (env::outer))) (l:=env::outer) (cls:=cls) (a0:=a0) ⟨λb o e=>PySem.W.of_hideAll _ e,PySem.W.hideAll_none _ (List.mem_cons_self ..),O3 hl λb hb=>Ac8 _ (Ac8 _ hb),oe,vs,T,oT,ts,hx,hc,hd,h1,PySem.W.hideAll_none _ (Ac8 _ (List.mem_cons_self ..)),hTx,hT,hdT,h3⟩ λh5 hfl hup=>?_
 obtain ⟨mv,F2⟩:=aO7 (P:=P) (w:=w) hl hth hok n1 n2 n3 n4 hfl.1 hfl.2.2.2 hup;refine hQ h5 [x,T] (λb hb=>?_) mv F2
 rcases Aa1.mp hb with rfl | hb
 ·exact⟨n1,n3⟩
 ·rw[Ad1.mp hb];exact⟨n2,n4⟩
end
def Dx (h:Heap)(x:Addr)(d:Option Addr):Prop:=∃o,h.get? x=some o/\o.dict=d
theorem aW5 {h:Heap}{x:Addr}{o:Obj}(e:h.get? x=some o):h.objs[x]? = some o:=by
 unfold Heap.get? at e;split at e
 ·cases e
 ·exact e
theorem Dx.keep {h h':Heap}{x:Addr}{d:Option Addr}(D:Dx h x d)(k:Kd h h')(t:∃o,h'.get? x=some o):Dx h' x d:=by
 obtain ⟨o,e,rfl⟩:=D;obtain ⟨o',e'⟩:=t;obtain ⟨o2,e2,d2⟩:=k x o (aW5 e);rw[aW5 e']at e2;cases e2;exact⟨o',e',d2⟩
theorem Fly.there {h0 h:Heap}{H:Hp}{x:Addr}{cls:Value}(F:Fly h0 H x cls h):∃o,h.get? x=some o:=by
 obtain ⟨a0,oe,vs,T,oT,ts,n1,n2,n3,n4,hx,_⟩:=F;exact⟨oe,hx⟩
section
variable {P:Program}{w:World}{M:Model}{A:Around}{E:Value->Shared->Prop}{s:Shared}{H:Hp}{h0 base:Heap}{env:Env}{outer:List Env}{L x:Addr}{cls:Value}{d:Option Addr}{Q:Unit->Shared->Prop}
theorem aM4 (hfr:A.frames=some (env::outer))(hf:env.frame=some L)(hl:s.heap.FunFrames base (env::outer))(F:Fly h0 H x cls s.heap)(D:Dx s.heap x d)(hth:∀b o,h0.get? b=some o->∃o',s.heap.get? b=some o')(hok:HOk P w H s.heap)
  (hQ:∀(h2:Heap) (B:List Addr),(∀b∈B,h0.get? b=none/\H b=none)->(∀b o,s.heap.get? b=some o->b∉frs (env::outer)->b∉B->h2.get? b=some o)->(∀b o,s.heap.get? b=some o->b∈frs (env::outer)->∃sl,h2.get? b=some {o with slots:=sl})->Fly h0 H x cls h2->Dx h2 x d->Q () {s with heap:=h2}) :
  wpAny M A (leaving env (.ref x)) Q E s:=by
 have f:=aP5 (M:=M) (E:=E) (P:=P) (w:=w) (Q:=λ_ s'=>∃h2 B,s'={s with heap:=h2}/\(∀b∈B,h0.get? b=none/\H b=none)/\(∀b o,s.heap.get? b=some o->b∉frs (env::outer)->b∉B->h2.get? b=some o)/\(∀b o,s.heap.get? b=some o->b∈frs (env::outer)->∃sl,h2.get? b=some {o with slots:=sl})/\Fly h0 H x cls h2) hfr hf hl F hth hok λh2 B a b c e=>⟨h2,B,rfl,a,b,c,e⟩
 refine wpAny_mono (X3 (p7 env (.ref x)) f) (λ_ s' z=>?_) λ_ _ z=>z.1
 obtain ⟨⟨h2,B,rfl,a,b,c,e⟩,k⟩:=z;exact hQ h2 B a b c e (D.keep k e.there)
theorem aQ5 (hl:s.heap.FunFrames base (env::outer))(F:Fly h0 H x cls s.heap)(D:Dx s.heap x d)(hth:∀b o,h0.get? b=some o->∃o',s.heap.get? b=some o')(hok:HOk P w H s.heap)
  (hQ:∀(h2:Heap) (B:List Addr),(∀b∈B,h0.get? b=none/\H b=none)->Mv (frs (env::outer)) B s.heap h2->Fly h0 H x cls h2->Dx h2 x d->Q () {s with heap:=h2}) :
  wpAny M A (setFlight (.ref x) none) Q E s:=by
 have f:=aX2 (M:=M) (E:=E) (A:=A) (P:=P) (w:=w) (Q:=λ_ s'=>∃h2 B,s'={s with heap:=h2}/\(∀b∈B,h0.get? b=none/\H b=none)/\Mv (frs (env::outer)) B s.heap h2/\Fly h0 H x cls h2) hl F hth hok λh2 B a b c=>⟨h2,B,rfl,a,b,c⟩
 refine wpAny_mono (X3 (O1 (.ref x) none) f) (λ_ s' z=>?_) λ_ _ z=>z.1
 obtain ⟨⟨h2,B,rfl,a,b,c⟩,k⟩:=z;exact hQ h2 B a b c (D.keep k c.there)
theorem aP9 (hfr:A.frames=some (env::outer))(hf:env.frame=some L)(hl:s.heap.FunFrames base (env::outer))(F:Fly h0 H x cls s.heap)(D:Dx s.heap x d)(hth:∀b o,h0.get? b=some o->∃o',s.heap.get? b=some o')(hok:HOk P w H s.heap)
  (hQ:∀(h2:Heap) (B:List Addr),(∀b∈B,h0.get? b=none/\H b=none)->Mv (frs (env::outer)) B s.heap h2->Fly h0 H x cls h2->Dx h2 x d->Q () {s with heap:=h2}) :
  wpAny M A (noteFrame (.ref x) env) (λ_ s2=>wpAny M A (setFlight (.ref x) none) Q E s2) E s:=by
 have f:=aX5 (M:=M) (E:=E) (P:=P) (w:=w) (Q:=λ_ s'=>∃h2 B,s'={s with heap:=h2}/\(∀b∈B,h0.get? b=none/\H b=none)/\Mv (frs (env::outer)) B s.heap h2/\Fly h0 H x cls h2) hfr hf hl F hth hok λh2 B a b c=>⟨h2,B,rfl,a,b,c⟩
 refine wpAny_mono (X3 (aD9 env (.ref x)) f) (λ_ s2 z=>?_) λ_ _ z=>z.1
 refine wpAny_mono (X3 (O1 (.ref x) none) z.1) (λ_ s' y=>?_) λ_ _ y=>y.1
 obtain ⟨⟨h2,B,rfl,a,b,c⟩,k⟩:=y;exact hQ h2 B a b c (D.keep (z.2.tr k) c.there)
end
def CXd (P:Program)(w:World):CXT:=λouter H s E e s'=>
 ∃x cls H' d,e=.ref x/\s'.os=s.os/\AllBare s'.gens/\Un (frs outer) [] H H' s.heap s'.heap/\HOk P w H' s'.heap/\Fly s.heap H' x cls s'.heap/\Dx s'.heap x d/\E cls d H'
section
variable {P:Program}{w:World}{M:Model}{A:Around}{E:Value->Shared->Prop}{s:Shared}{H:Hp}{h0 base:Heap}{env:Env}{outer:List Env}{L x:Addr}{cls:Value}{Q:Unit->Shared->Prop}
theorem aY3 {h:Heap}{args:List Value}(hfr:A.frames=some (env::outer))(hf:env.frame=some L)(hl:h.FunFrames base (env::outer))(hx:Heap.MadeExcOf h s.heap x cls args)(hth:∀b o,h0.get? b=some o->∃o',h.get? b=some o')(hok:HOk P w H h)
  (hQ:∀(h2:Heap),(∀b o,h.get? b=some o->b∉frs (env::outer)->h2.get? b=some o)->(∀b o,h.get? b=some o->b∈frs (env::outer)->∃sl,h2.get? b=some {o with slots:=sl})->Fly h0 H x cls h2->Dx h2 x none->Q () {s with heap:=h2}) :
  wpAny M A (leaving env (.ref x)) Q E s:=by
 have D:Dx s.heap x none:=by obtain ⟨t,e,_⟩:=hx.there;exact⟨_,e,rfl⟩
 have f:=bD9 (M:=M) (E:=E) (P:=P) (w:=w) (h0:=h0) (Q:=λ_ s'=>∃h2,s'={s with heap:=h2}/\(∀b o,h.get? b=some o->b∉frs (env::outer)->h2.get? b=some o)/\(∀b o,h.get? b=some o->b∈frs (env::outer)->∃sl,h2.get? b=some {o with slots:=sl})/\Fly h0 H x cls h2) hfr hf hl hx hth hok λh2 b c e=>⟨h2,rfl,b,c,e⟩
 refine wpAny_mono (X3 (p7 env (.ref x)) f) (λ_ s' z=>?_) λ_ _ z=>z.1
 obtain ⟨⟨h2,rfl,b,c,e⟩,k⟩:=z;exact hQ h2 b c e (D.keep k e.there)
end
section
variable {P:Program}{w:World}{K:PySem.W.Frag}{mg:Str->Option Value}{base:Heap}{N:List Str}{qual:Str}{scope:Scope}{f:Addr}{cd:Value}{A:Around}{outer:List Env}{s:Shared}{H:Hp}{E:XK}
theorem bC1 {pins:List (Addr×Obj)}{σ:St}{H1:Hp}{s1:Shared}{h2:Heap}{g:Array GenState}{dr:Drawn}{tk:Nat}{B:List Addr}{x:Addr}{cls:Value}(I:Inv (v6 (CXd P w) P w K mg base N qual scope f cd A outer s H E) pins σ H1 s1)(hB:∀b∈B,s.heap.get? b=none/\H1 b=none)
  (k:∀b o,s1.heap.get? b=some o->b∉frs (envOfC qual scope s.heap.objs.size f cd::outer)->b∉B->h2.get? b=some o) (ks:∀b o,s1.heap.get? b=some o->b∈frs (envOfC qual scope s.heap.objs.size f cd::outer)->∃sl,h2.get? b=some {o with slots:=sl})
  (F:Fly s.heap H1 x cls h2) {dx:Option Addr} (D:Dx h2 x dx) (q:E cls dx H1) (hg:AllBare g):CXd P w outer H s E (.ref x) {s1 with heap:=h2,gens:=g,drawn:=dr,toks:=tk}:=by
 have ef:frs (envOfC qual scope s.heap.objs.size f cd::outer)=s.heap.objs.size::frs outer:=bF4 rfl
 have hL:s.heap.get? s.heap.objs.size=none:=Heap.get?_none_of_le (Aa6 _)
 have hb:Un (frs outer) [] H H1 s.heap s1.heap:=I.base
 rw[ef]at k ks;refine⟨x,cls,H1,dx,rfl,I.os,hg,bC0 (B:=s.heap.objs.size::B) hb (λb hm=>?_) (λb o e h1 h2=>?_) (λb o e h1=>ks b o e (Ac8 _ h1)),aP4 (fs:=s.heap.objs.size::frs outer) (B:=B) I.hok (λb hm=>?_) (λb hm=>(hB b hm).2) k,F,D,q⟩
 ·rcases Aa1.mp hm with rfl | hm
  ·exact hL
  ·exact(hB b hm).1
 ·refine k b o e (λz=>?_) λz=>h2 (Ac8 _ z)
  rcases Aa1.mp z with rfl | z
  ·exact h2 (List.mem_cons_self ..)
  ·exact h1 z
 ·exact I.stkFree b (by show b∈frs (envOfC qual scope s.heap.objs.size f cd::outer);rw[ef];exact hm)
theorem bO5:aB3 (CXd P w) (v6 (CXd P w) P w K mg base N qual scope f cd A outer s H E) E:=by
 intro pins σ H1 s1 e s' I hc;obtain ⟨x,cls,H',dx,rfl,os,bare,un,hok,F,D,q⟩:=hc;obtain ⟨hh,g,d,t,os'⟩:=s';obtain rfl:os'=s1.os:=os;have J:=I.call (h':=hh) (g':=g) (d':=d) (t':=t) (ch:=[]) un hok bare (λb z=>absurd z (by simp))
 have hth:∀b o,s.heap.get? b=some o->∃o',s1.heap.get? b=some o':=λb o e=>I.base.there b o e (by exact λz=>absurd (show b∈([]:List Addr) from z) (by simp))
 have hth':∀b o,s.heap.get? b=some o->∃o',hh.get? b=some o':=λb o e=>J.base.there b o e (by exact λz=>absurd (show b∈([]:List Addr) from z) (by simp))
 have no:∀b,s1.heap.get? b=none->s.heap.get? b=none:=λb e=>by
  cases q:s.heap.get? b with
  | none=>rfl
  | some o=>obtain ⟨o',q'⟩:=hth b o q;rw[e]at q';cases q'
 have F':Fly s.heap H' x cls hh:=by
  obtain ⟨a0,oe,vs,T,oT,ts,n1,n2,r⟩:=F;exact⟨a0,oe,vs,T,oT,ts,no _ n1,no _ n2,r⟩
 exact aM4 (P:=P) (w:=w) (H:=H') (h0:=s.heap) (base:=base) J.ok.frames rfl J.stack F' D hth' hok λh2 B hB k ks F2 D2=>bC1 (s1:=⟨hh,g,d,t,s1.os⟩) J hB k ks F2 D2 q bare
theorem bW2 {cls:Value}:∀(pins:List (Addr×Obj)) (σ:St) (H1:Hp) (s1:Shared) (h':Heap) (y:Addr) (vs:List Value),Inv (v6 (CXd P w) P w K mg base N qual scope f cd A outer s H E) pins σ H1 s1->Heap.MadeExcOf s1.heap h' y cls vs->E cls none H1->(v6 (CXd P w) P w K mg base N qual scope f cd A outer s H E).xe (.ref y) {s1 with heap:=h'}:=by
 intro pins σ H1 s1 h' y vs I hm q;have hth:∀b o,s.heap.get? b=some o->∃o',s1.heap.get? b=some o':=λb o e=>I.base.there b o e (by exact λz=>absurd (show b∈([]:List Addr) from z) (by simp))
 exact aY3 (P:=P) (w:=w) (H:=H1) (h0:=s.heap) (base:=base) (h:=s1.heap) (s:={s1 with heap:=h'}) I.ok.frames rfl I.stack hm hth I.hok λh2 k ks F2 D2=>bC1 (B:=[]) (s1:=s1) I (λb hb=>absurd hb (by simp)) (λb o e hb _=>k b o e hb) ks F2 D2 q I.bare
theorem Fun.okD {x qual:Str}{st:Stmt}{f:Addr}{fd:FuncData}{N ps:List Str}{k:Nat}{sp:Sp}(F:Fun K x qual st f fd)(S:C2 N ps (A9 st))(len:∀vs H Q E,sp vs H Q E->vs.length=ps.length)
  (hbody:∀(cdv:Value) (A:Around) (outer:List Env) (s:Shared) (H:Hp) (vs:List V) (Q:VK) (E:XK),Room k (A.deeper (envOfC qual (A9 st) s.heap.objs.size f cdv))->sp vs H Q E ->
   ∃t,PSs (v6 (CXd P w) P w K mg base N qual (A9 st) f cdv A outer s H E) (U5 st) t/\t {nx:=λ_ H'=>Q .non H',rt:=Q} (G3 N vs) H):D6 P w K mg base (CXd P w) (k+1) f fd ps sp:=by
 obtain ⟨oc,od,kV,doc,pm,an,cdv,ct,osl,rfl,lk,hcd⟩:=F.ex;exact bO6 lk hcd S len λA outer s H vs Q E hr hsp=>hbody cdv A outer s H vs Q E hr hsp
end
abbrev Cx.markd (X:Cx)(e:Value):Cx:={X with A:=X.A.mark (some e),calm:=false,xe:=λ_ _=>False}
theorem Inv.markd {X:Cx}{pins:List (Addr×Obj)}{σ:St}{H:Hp}{s:Shared}(I:Inv X pins σ H s)(e:Value):Inv (X.markd e) pins σ H s:=
 ⟨⟨I.ok.mod,I.ok.kind,I.ok.glob,I.ok.blt,I.ok.above,I.ok.inj,I.ok.has,I.ok.cab,(λz=>nomatch z),I.ok.frames,I.ok.stk,I.ok.exf,I.ok.bs,I.ok.bsz,I.ok.noex,I.ok.exfs,I.ok.funs,I.ok.frf⟩,I.os,I.bare,I.base,I.loc,I.cell,I.free,I.freeC,I.pin,I.hok,I.len⟩
theorem Inv.unmark {X:Cx}{pins:List (Addr×Obj)}{σ:St}{H:Hp}{s:Shared}{e:Value}(ok:X.Ok)(I:Inv (X.markd e) pins σ H s):Inv X pins σ H s:=
 ⟨ok,I.os,I.bare,I.base,I.loc,I.cell,I.free,I.freeC,I.pin,I.hok,I.len⟩
def b9 (sp:Sp)(dvs:List V)(t:TA)(EX:XK):TE:=λσ H Q=>t σ H λvs H1=>sp (vs++dvs) H1 Q EX
section
variable {X:Cx}{pins:List (Addr×Obj)}{σ:St}{H:Hp}{s:Shared}{h':Heap}
theorem Inv.unbind {j:Nat}{y:Str}{m:Str->Option Value}{v:Option Value}(I:Inv X pins σ H s)(hN:X.N.Nodup)(hj:X.N[j]? = some y)(hn:s.heap.Ns X.env.locals m)(hl:∀(i:Nat) (x:Str) (v:V),X.N[i]? = some x->σ[i]? = some (some v)->Vis X.env.scope x->∃u,RelV v u/\bY1 X.env s.heap m x u)
  (hn':h'.Ns X.env.locals λx=>if x=y then v else m x) (hs:Heap.SameBut X.env.locals s.heap h') {t':Nat}:Inv X pins (σ.set j none) H {s with heap:=h',toks:=t'}:=by
 have cne:=I.cne
 obtain ⟨oL,_,_,hoL,_⟩:=id hn;have tracked:HOk X.prog X.w H h':=λb ob e=>by
  refine(I.hok b ob e).stay (λc w' hc q=>(hs.2 c ?_).trans q) (λ_ q=>q) λ_ _ q=>q
  rintro rfl;rcases hc with rfl | hc
  ·rw[I.free]at e;cases e
  ·rw[I.free]at hc;cases hc
 refine⟨I.ok,I.os,I.bare,⟨λb o e n hb hx=>?_,λb o e n hb hx=>?_,I.base.free,λb o e hx=>?_,I.base.tups,I.base.frzs,I.base.tbls⟩,⟨_,hn',λi x v' e1 e2 e3=>?_⟩,λy c e=>?_,I.free,I.freeC,λp hp=>?_,tracked,by simpa using I.len⟩
 ·exact(hs.2 b (Ab7 (Ab6 (Ab2 e) I.ok.above))).trans (I.base.keep b o e n hb hx)
 ·obtain ⟨sl,e1⟩:=I.base.slot b o e n hb hx;exact⟨sl,(hs.2 b (Ab7 (Ab6 (Ab2 e) I.ok.above))).trans e1⟩
 ·obtain ⟨o',e1⟩:=I.base.there b o e hx;exact⟨o',(hs.2 b (Ab7 (Ab6 (Ab2 e) I.ok.above))).trans e1⟩
 ·have hij:i≠j:=λz=>by
   subst z;by_cases hi:i<σ.length
   ·rw[List.getElem?_set_self hi]at e2;cases e2
   ·rw[Ac9 (by simpa using hi)]at e2;cases e2
  rw[Ac5 (Ne.symm hij)]at e2;obtain ⟨u',r',q⟩:=hl i x v' e1 e2 e3;refine⟨u',r',?_⟩;rcases q with ⟨k,e⟩ | ⟨k,c,e,z⟩
  ·refine .inl ⟨k,?_⟩
   have:x≠y:=λz=>hij (by
    subst z;exact(List.getElem?_inj (Aa9.mp e1).1 hN).mp (e1.trans hj.symm))
   show(if x=y then v else m x)=some u'
   rw[if_neg this];exact e
  ·refine .inr ⟨k,c,e,?_⟩;obtain ⟨o,ho,hd⟩:=z;exact⟨o,(hs.2 c (cne x c e)).trans ho,hd⟩
 ·obtain ⟨v,o,ho,hd⟩:=I.cell y c e;exact⟨v,o,(hs.2 c (cne y c e)).trans ho,hd⟩
 ·obtain ⟨q1,q2,q3,q4⟩:=I.pin p hp;exact⟨(hs.2 p.1 q3).trans q1,q2,q3,q4⟩
end
def subIn (K:PySem.W.Frag)(C:Addr)(v:Value):Bool:=match K.lookup C with
 | some ⟨_,_,.cls cd,_⟩=>cd.mro.contains v
 | _=>false
section
variable {M:Model}{A:Around}{E:Value->Shared->Prop}
variable {nm q nm' q':Str}{C N T N':Addr}{bs bm bs' bm':List Value}{hdct hdct':Bool}{sn sn':List Str}{sub sub':List Value}{ab ab':Bool}{col col':Option Bool}{dd dd':Option Addr}{k0 k1 k2 k3 k5 j0 j1 j2 j3 j5:Option Value}{newId newId':String}
theorem w4 {h:Heap}{g:Array GenState}{d:Drawn}{t:Nat}{os:OsState}{e:Addr}{oe:Obj}{Q:Bool->Shared->Prop}
  (hC:h.get? C=some (excClassObj nm q C N bs bm hdct sn sub ab col dd k0 k1 k2 k3 k5 newId)) (hT:h.get? T=some (excClassObj nm' q' T N' bs' bm' hdct' sn' sub' ab' col' dd' j0 j1 j2 j3 j5 newId')) (he:h.get? e=some oe) (hcls:oe.cls=.ref C) (hbase:bm'.contains (.type "BaseException")=true)
  (hin:(Value.ref C::bm).contains (.ref T)=true) (hq:Q true ⟨h,g,d,t,os⟩):wpAny M A (excMatches (.ref e) (.ref T)) Q E ⟨h,g,d,t,os⟩:=by
 have hcB:(Value.ref T::bm').contains (.type "BaseException")=true:=by rw[List.contains_cons,hbase,Bool.or_true]
 have f:=tc_notTuple
 unfold excMatches
 repeat (first | (with_reducible refine wpAny_loadPart_at he ?_;rw[hcls]) | with_reducible refine wpAny_loadPart_at hT ?_ | (with_reducible refine wpAny_isSubtype_exc hT ?_;rw[hcB]) | (with_reducible refine wpAny_isSubtype_exc hC ?_;rw[hin]) | wp_step)
 exact hq
end
theorem aY2 {K:PySem.W.Frag}{h:Heap}{C:Addr}{v:Value}{bm:List Value}{nm qn:Str}{N:Addr}{bs:List Value}{hdct:Bool}{sn:List Str}{sub:List Value}{ab:Bool}{col:Option Bool}{dd:Option Addr}{k0 k1 k2 k3 k5:Option Value}{newId:String}(X:K.In h)(e:h.get? C=some (excClassObj nm qn C N bs bm hdct sn sub ab col dd k0 k1 k2 k3 k5 newId))(q:subIn K C v=true):(Value.ref C::bm).contains v=true:=by
 unfold subIn at q;split at q
 ·rename_i ho
  have:=X _ _ ho
  rw[e]at this;cases this;exact q
 ·cases q
theorem bJ5 {P:Program}{w:World}{H:Hp}{h:Heap}{x C:Addr}{d:Option Addr}{o:Obj}{vs:Array Value}(e:h.get? x=some o)(hc:o.cls=.ref C)(hd:o.data=.fields vs)(hx:o.dict=d):ObjOk P w H h x (excD x C d):=
 ⟨⟨o,vs,e,hc,hd,hx⟩,⟨o,e⟩,λh1 h2 ⟨o',vs',e1,e2,e3,e4⟩ k=>⟨o',vs',k _ e1,e2,e3,e4⟩⟩
def bJ9 (K:PySem.W.Frag)(C:Addr):Prop:=∀h:Heap,K.In h->∃bm N nm qn bs hdct sn sub ab col dd k0 k1 k2 k3 k5,h.get? C=some (excClassObj nm qn C N bs bm hdct sn sub ab col dd k0 k1 k2 k3 k5 "ValueError.__new__")/\OwnTail h bmV bm
def bA7 (X:Cx)(pins:List (Addr×Obj))(σ:St)(EX:XK)(e:Value)(s':Shared):Prop:=∃s0 H0,Inv X pins σ H0 s0/\CXd X.prog X.w X.stack H0 s0 EX e s'
structure PBd (X:Cx)(body:List Stmt)(t:XK->TS):Prop where
 run:∀(pins:List (Addr×Obj)) (s:Shared) (σ:St) (H:Hp) (D:v9) (EX:XK),Inv X pins σ H s->t EX D σ H->wpAny (model X.prog X.w) X.A (execs body X.env) (SP X pins D) (bA7 X pins σ EX) s
section
variable {X:Cx}{k:Nat}{f:Addr}{fd:FuncData}{ps:List Str}{sp:Sp}{dvs:List V}{ds:List Value}{x:Str}{p pos:Pos}{e:Expr}{es:List Expr}{t:TA}
theorem aX3 (F:D6 X.prog X.w X.K X.mg X.base (CXd X.prog X.w) k f fd ps sp)(hr:Room k X.A)(hg:Gl X x)(hm:X.mg x=some (.ref f))(hk:PySem.W.keepIn X.K (.ref f)=true)(hb:Binds X.K fd ps ds)(hd:Vals dvs ds)
  (ha:PA X.nox (e::es) t) (hdb:(x==("__debug__" : Str))=false:=by decide) (he:starEach (e::es) X.env=(false,eval e X.env)::starEach es X.env:=by rfl) (hpl:(backTo pos (starEach es X.env)).any (·.1)=false:=by rfl)
  {pins:List (Addr×Obj)} {s:Shared} {σ:St} {H:Hp} {Q:VK} {EX:XK} (I:Inv X pins σ H s) (h:b9 sp dvs t EX σ H Q):wpAny (model X.prog X.w) X.A (eval (.Call (.Name x p) (e::es) [] pos) X.env) (EP X pins σ Q) (bA7 X pins σ EX) s:=by
 refine wpAny_Call_Name_kw (Z1 I hg hm ?_ hdb);refine PySem.W.callWith_K (h₀:=X.base) I.ok.mod.kin hk (wpAny_mono (ha pos pins s σ H _ (I.wish _) h) (λus s1 ⟨vs,H1,I1,r,q⟩=>⟨I1.kIn,?_⟩) λ_ _ z=>False.elim z) he hpl
 have I1:=I1.unwish
 have r2:Vals (vs++dvs) (us++ds):=r.append hd
 have hl:(us++ds).length=ps.length:=by rw[<- r2.length];exact F.len _ _ _ _ q
 refine wpAny_call (codeAny_mono (F.run X.A X.stack s1 H1 ⟨us,[]⟩ (us++ds) (vs++dvs) Q EX hr I1.env0 (hb s1 us I1.kIn hl) r2 q) λr s' hq=>?_)
 cases r with
 | error e=>exact⟨s1,H1,I1,hq⟩
 | ok fl=>
  cases fl with
  | ret u=>exact I1.after hq
  | next=>exact False.elim hq
  | brk=>exact False.elim hq
  | cont=>exact False.elim hq
theorem aO8 {apos:Pos}(F:D6 X.prog X.w X.K X.mg X.base (CXd X.prog X.w) k f fd ps sp)(hr:Room k X.A)(hg:Gl X x)(hm:X.mg x=some (.ref f))(hk:PySem.W.keepIn X.K (.ref f)=true)(hb:Binds X.K fd ps ds)(hd:Vals dvs ds)
  (ha:PA X.nox (e::es) t) (hdb:(x==("__debug__" : Str))=false:=by decide) (he:starEach (e::es) X.env=(false,eval e X.env)::starEach es X.env:=by rfl) (hpl:(backTo pos (starEach es X.env)).any (·.1)=false:=by rfl)
  (hs:swapsWith (.Call (.Name x p) (e::es) [] pos) none apos.line X.env=pure false:=by rfl) :
  PBd X [.Expr (.Call (.Name x p) (e::es) [] pos) apos] λEX=>Z6 (b9 sp dvs t EX):=by
 refine⟨λpins s σ H D EX I h=>?_⟩
 refine wpAny_execs_cons (wpAny_mono (wpAny_Expr_any (Q:=λfl s'=>fl=.next/\SP X pins D .next s') (wpAny_mono (aX3 F hr hg hm hk hb hd ha hdb he hpl I h) (λv s1 ⟨z,H1,I1,r1,q1⟩=>⟨rfl,σ,H1,I1,q1⟩) λ_ _ z=>z) I.quiet hs) (λfl s1 q=>?_) λ_ _ z=>z)
 obtain ⟨rfl,q⟩:=q;exact wpAny_execs_nil q
theorem bV7 {c:Expr}{a b:List Stmt}{tc:TT}{ta tb:XK->TS}{apos:Pos}(hc:PT X.nox c tc)(ha:PBd X a ta)(hb:PBd X b tb):PBd X [.If c a b apos] λEX=>aX1 tc (ta EX) (tb EX):=by
 refine⟨λpins s σ H D EX I h=>?_⟩
 refine wpAny_execs_cons (wpAny_mono (wpAny_If (Q:=SP X pins D) (wpAny_mono (hc pins s σ H _ (I.wish _) h) (λd s1 ⟨H1,I1,q1⟩=>?_) λ_ _ z=>False.elim z)) (λfl s1 q=>?_) λ_ _ z=>z)
 ·cases d with
  | true=>exact wpAny_mono (ha.run pins s1 σ H1 D EX I1.unwish q1) (λ_ _ q=>q) λ_ _ z=>z
  | false=>exact wpAny_mono (hb.run pins s1 σ H1 D EX I1.unwish q1) (λ_ _ q=>q) λ_ _ z=>z
 ·cases fl with
  | next=>exact wpAny_execs_nil q
  | ret v=>exact q
  | brk=>exact q
  | cont=>exact q
end
def bO9 (K:PySem.W.Frag)(TE:Addr)(tb:XK->TS)(j:Nat)(th:TS):TS:=λD σ H=>
 tb (λcls d H1=>∃C,cls=.ref C/\bJ9 K C/\subIn K C (.ref TE)=true/\∀x,H1 x=none->th {nx:=λσ' H'=>D.nx (σ'.set j none) H',rt:=λ_ _=>False} (σ.set j (some (.ref x))) (upd H1 x (excD x C d))) D σ H
section
variable {X:Cx}
theorem bN5 {body:List Stmt}{tb:XK->TS}{cn en:Str}{TE:Addr}{b0:Stmt}{suite:List Stmt}{j:Nat}{th:TS}{np hpos pos:Pos}(hb:PBd X body tb)(hg:Gl X cn)(hm:X.mg cn=some (.ref TE))(hTE:bJ9 X.K TE)
  (hN:X.N.Nodup) (hj:X.N[j]? = some en) (hen:X.env.scope.names.lookup en=some .local) (hst:X.stack=X.env::X.outer) (hfr:X.env.frame=some X.env.locals) (hh:∀e,PSs (X.markd e) (b0::suite) th) (hdb:(cn==("__debug__" : Str))=false:=by decide) :
  PS X (.Try body [.ExceptHandler (some (.Name cn np)) (some en) (b0::suite) hpos] [] [] pos) (bO9 X.K TE tb j th):=by
 refine⟨?_⟩;intro pins s σ H D I h;refine wpAny_Try_except (wpAny_mono (hb.run pins s σ H D _ I h) (λf s1 q=>?_) (λe s1 hx=>?_))
 ·cases f with
  | next=>exact wpAny_execs_nil q
  | ret v=>exact q
  | brk=>exact q
  | cont=>exact q
 obtain ⟨s0,H0,I0,x,cls,H1,dd0,rfl,os,bare,un,hok,F,D0,C,rfl,hC,hsub,hth⟩:=hx;have ex:H1 x=none:=by obtain ⟨_,_,_,_,_,_,_,_,n3,_⟩:=F;exact n3
 have n0:s0.heap.get? x=none:=by obtain ⟨_,_,_,_,_,_,n1,_⟩:=F;exact n1
 have J1:Inv X pins σ H1 s1:=I0.call' os un hok bare (λb z=>absurd z (by simp))
 have fr:X.A.frames=some (X.env::X.outer):=by rw[<- hst];exact I0.ok.frames
 have stk:∀{s':Shared} {σ':St} {H':Hp},Inv X pins σ' H' s'->s'.heap.FunFrames X.base (X.env::X.outer):=λJ=>by rw[<- hst];exact J.stack
 rw[hst]at un;have fsn:∀b∈frs (X.env::X.outer),H1 b=none:=λb hb=>J1.stkFree b (by rw[hst];exact hb)
 refine aP9 (P:=X.prog) (w:=X.w) fr hfr (stk J1) F D0 (λb o e=>un.there b o e (by simp)) hok λh2 B hB mv F2 D2=>?_
 have un2:=bC0 un (λb hb=>(hB b hb).1) mv.k mv.s
 have hok2:=aP4 hok fsn (λb hb=>(hB b hb).2) mv.k
 have J2:Inv X pins σ H1 {s1 with heap:=h2}:=I0.call' (s':={s1 with heap:=h2}) os (by rw[hst];exact un2) hok2 bare (λb z=>absurd z (by simp))
 refine wpAny_handleBy_cons (codeAny_handlers_test (Z1 (X:=X.markd (.ref x)) (J2.markd (.ref x)) hg hm ?_ hdb)) (by intro q;cases q)
 obtain ⟨bm,N,nm,qn,bs,hdct,sn,sub,ab,col,dd,k0,k1,k2,k3,k5,o1,o4⟩:=hC _ J2.kIn;obtain ⟨bm',N',nm',qn',bs',hdct',sn',sub',ab',col',dd',j0,j1,j2,j3,j5,o1',o4'⟩:=hTE _ J2.kIn;have hox:∃oe vs,h2.get? x=some oe/\oe.cls=.ref C/\oe.data=.fields vs:=by
  obtain ⟨_,oe,vs,_,_,_,_,_,_,_,e1,e2,e3,_⟩:=F2;exact⟨oe,vs,e1,e2.1,e3⟩
 obtain ⟨oe,vse,eo,eoc,eod⟩:=hox;refine w4 o1 o1' eo eoc (o4'.hasType PySem.F.excBase_ValueError.hasBase) (aY2 J2.kIn o1 hsub) ?_;refine codeAny_handlers_suite_as ?_;refine aQ5 (P:=X.prog) (w:=X.w) (stk J2) F2 D2 (λb o e=>un2.there b o e (by simp)) hok2 λh3 B3 hB3 mv3 F3 D3=>?_
 have un3:=bC0 un2 (λb hb=>(hB3 b hb).1) mv3.k mv3.s
 have hok3:=aP4 hok2 fsn (λb hb=>(hB3 b hb).2) mv3.k
 obtain ⟨oe',vse',eo',eoc',eod',edd'⟩:∃oe vs,h3.get? x=some oe/\oe.cls=.ref C/\oe.data=.fields vs/\oe.dict=dd0:=by
  obtain ⟨_,oe,vs,_,_,_,_,_,_,_,e1,e2,e3,_⟩:=F3;obtain ⟨o',q1,q2⟩:=D3;rw[e1]at q1;cases q1;exact⟨oe,vs,e1,e2.1,e3,q2⟩
 have un4:Un (frs (X.env::X.outer)) [] H0 (upd H1 x (excD x C dd0)) s0.heap h3:=⟨un3.keep,un3.slot,λb o e n hx=>by
  rw[B2 (λz=>by rw[z,n0]at e;cases e)];exact un3.free b o e n hx,un3.there,λb xs e=>by
  rw[B2 (λz=>by have:=un3.tups b xs e;rw[z,ex]at this;cases this)];exact un3.tups b xs e,λb o u e=>by
  rw[B2 (λz=>by have:=un3.frzs b o u e;rw[z,ex]at this;cases this)];exact un3.frzs b o u e,λb ps e=>by
  obtain ⟨more,q⟩:=un3.tbls b ps e;exact⟨more,by rw[B2 (λz=>by rw[z,ex]at q;cases q)];exact q⟩⟩
 have hok4:HOk X.prog X.w (upd H1 x (excD x C dd0)) h3:=λb u e=>by
  by_cases hb:b=x
  ·subst hb;rw[C7]at e;cases e;exact bJ5 eo' eoc' eod' edd'
  ·rw[B2 hb]at e;exact(hok3 b u e).stay (λ_ _ _ q=>q) (λc q=>by rw[B2 (C5 q ex)];exact q) λc xs q=>by rw[B2 (C5 q ex)];exact q
 have J4:Inv X pins σ (upd H1 x (excD x C dd0)) {s1 with heap:=h3}:=I0.call' (s':={s1 with heap:=h3}) os (by rw[hst];exact un4) hok4 bare (λb z=>absurd z (by simp))
 refine aA1 (X:=X.markd (.ref x)) (v:=.ref x) (J4.markd (.ref x)) hN hj (.inl hen) rfl (λs4 J5=>?_) (.inr hen)
 refine wpAny_mono (hh (.ref x) pins s4 _ _ _ J5 (hth x ex)) (λf s5 q=>?_) λ_ _ z=>False.elim z
 cases f with
 | ret v=>obtain ⟨_,_,_,_,_,z⟩:=q;exact False.elim z
 | brk=>obtain ⟨_,_,_,z⟩:=q;exact False.elim z
 | cont=>obtain ⟨_,_,_,z⟩:=q;exact False.elim z
 | next=>
  obtain ⟨σ',H',J6,q⟩:=q;have J7:Inv X pins σ' H' s5:=J6.unmark I.ok;obtain ⟨m,hn,hl⟩:=id J7.loc;exact wpAny_nameGoes_keeps hen hn (by rw[I.ok.kind];rfl) λh' v hns hsb=>⟨_,H',J7.unbind hN hj hn hl hns hsb,q⟩
end
section
variable {K:PySem.W.Frag}{C TB f N:Addr}{nm qn:Str}{bs:List Value}{hdct:Bool}{sn:List Str}{sub:List Value}{ab:Bool}{col:Option Bool}{dd:Option Addr}{k0 k1 k2 k3 k5:Option Value}
theorem aD3 (hT:PySem.W.excIn K C bmV "ValueError.__new__" = true):bJ9 K C:=λh X=>by
 obtain ⟨bm,N,nm,qn,bs,hdct,sn,sub,ab,col,dd,k0,k1,k2,k3,k5,mN,o1,o2,o3,o4⟩:=aF0 X hT;exact⟨bm,N,nm,qn,bs,hdct,sn,sub,ab,col,dd,k0,k1,k2,k3,k5,o1,o4⟩
end
structure RoomU (k:Nat)(A:Around):Prop where
 dp:A.depth+3*k+5<recursionLimit
 un:A.units+16*k+200<cLine
theorem Room.u {k:Nat}{A:Around}(r:Room k A):RoomU k A:=⟨r.dp,r.un⟩
theorem RoomU.mark {k:Nat}{A:Around}{e:Option Value}(r:RoomU k A):RoomU k (A.mark e):=⟨r.dp,r.un⟩
theorem RoomU.mono {j k:Nat}{A:Around}(r:RoomU k A)(h:j<=k):RoomU j A:=⟨by have:=r.dp;omega,by have:=r.un;omega⟩
theorem RoomU.deeper {k:Nat}{A:Around}(r:RoomU (k+1) A)(env:Env):RoomU k (A.deeper env):=
 ⟨by have:=r.dp;show A.depth+1+3*k+5<_;omega,by have:=r.un;show A.units+3+16*k+200<_;omega⟩
structure aW6 (P:Program)(w:World)(K:PySem.W.Frag)(mg:Str->Option Value)(base:Heap)(k:Nat)(f:Addr)(fd:FuncData)(ps:List Str)(sp:Sp):Prop where
 len:∀vs H Q E,sp vs H Q E->vs.length=ps.length
 run:∀(A:Around) (outer:List Env) (s:Shared) (H:Hp) (args:Args) (us:List Value) (vs:List V) (Q:VK) (E:XK),RoomU k A->aW9 P w K mg base A outer s H->BindsTo s fd args (ps.zip us)->Vals vs us->sp vs H Q E ->
  codeAny (model P w) A (.call (.ref f) args) (CR CX0 outer P w H s Q E) s
abbrev cxU (P:Program)(w:World)(K:PySem.W.Frag)(mg:Str->Option Value)(base:Heap)(N:List Str)(qual:Str)(scope:Scope)(f:Addr)(cd:Value)(A:Around)(outer:List Env)(s:Shared)(H:Hp)(E:XK):Cx:=
 {v6 CX0 P w K mg base N qual scope f cd A outer s H E with calm:=false,xe:=λ_ _=>False}
section
variable {P:Program}{w:World}{K:PySem.W.Frag}{mg:Str->Option Value}{base:Heap}
theorem Fun.okU {x qual:Str}{st:Stmt}{f:Addr}{fd:FuncData}{N ps:List Str}{k:Nat}{sp:Sp}(F:Fun K x qual st f fd)(S:C2 N ps (A9 st))(len:∀vs H Q E,sp vs H Q E->vs.length=ps.length)
  (hbody:∀(cdv:Value) (A:Around) (outer:List Env) (s:Shared) (H:Hp) (vs:List V) (Q:VK) (E:XK),RoomU k (A.deeper (envOfC qual (A9 st) s.heap.objs.size f cdv))->sp vs H Q E ->
   ∃t,PSs (cxU P w K mg base N qual (A9 st) f cdv A outer s H E) (U5 st) t/\t {nx:=λ_ H'=>Q .non H',rt:=Q} (G3 N vs) H):aW6 P w K mg base (k+1) f fd ps sp:=by
 obtain ⟨oc,od,kV,doc,pm,an,cdv,ct,osl,rfl,lk,hcd⟩:=F.ex;refine⟨len,λA outer s H args us vs Q E hr e0 hb r hsp=>?_⟩
 have hl:=len _ _ _ _ hsp
 have KX:K.In s.heap:=e0.mod.kin.keeps λb o e=>(e0.bs b o e).1
 have lim:s.heap.NoLimit:=e0.mod.nolimit.keeps λb o e=>(e0.bs b o e).1
 have hkind:∀y∈ps.zip us,(A9 st).names.lookup y.1=some .local\/((A9 st).names.lookup y.1=some .cell/\((cellsFrom (s.heap.objs.size+1) (A9 st).names []).lookup y.1).isSome=true):=λ⟨n,v⟩ hy=>by
  rcases S.par n (List.of_mem_zip hy).1 with q | q
  ·exact .inl q
  ·exact .inr ⟨q,PySem.W.cellsFrom_some _ _ _ (.inl q)⟩
 refine codeAny_call_function (by have:=hr.dp;omega) (KX _ _ lk) rfl S.co S.gen rfl (PySem.W.codeRec_of KX hcd) (hb _ _ _ _ ?_)
 refine wpAny_newFunctionEnv_cells S.kind hkind λenv he s1 x=>?_
 subst he;refine⟨lim.keeps x.toInCall.keep,codeAny_func ?_⟩;obtain ⟨t,ht,hq⟩:=hbody cdv A outer s H vs Q E (hr.deeper _) hsp;have I0:=aE9 (CX:=CX0) (A:={A with handled:=none}) (qual:=qual) (f:=f) (cd:=cdv) (E:=E) S rfl (⟨e0.frames,e0.mod,e0.bs,e0.bsz,e0.funs,e0.frf,e0.hok,e0.bare⟩:aW9 P w K mg base {A with handled:=none} outer s H) hl r x
 have I:Inv (cxU P w K mg base N qual (A9 st) f cdv A outer s H E) [] (G3 N vs) H s1:=
  ⟨⟨I0.ok.mod,I0.ok.kind,I0.ok.glob,I0.ok.blt,I0.ok.above,I0.ok.inj,I0.ok.has,I0.ok.cab,(λz=>nomatch z),Around.frames_deeper e0.frames,I0.ok.stk,I0.ok.exf,I0.ok.bs,I0.ok.bsz,I0.ok.noex,I0.ok.exfs,I0.ok.funs,I0.ok.frf⟩,I0.os,I0.bare,I0.base,I0.loc,I0.cell,I0.free,I0.freeC,I0.pin,I0.hok,I0.len⟩
 refine wpAny_mono (ht [] s1 (G3 N vs) H _ I hq) (λfl s' hs=>?_) λe s' hs=>False.elim hs
 have fin:∀{σ':St} {H':Hp} {v:V} {u:Value},Inv (cxU P w K mg base N qual (A9 st) f cdv A outer s H E) [] σ' H' s'->RelV v u->Q v H'->CE outer P w H s Q u s':=
  λ{σ' H' v u} J rv q=>⟨v,H',J.os,J.bare,J.base,J.hok,rv,q⟩
 cases fl with
 | ret u=>
  obtain ⟨v,σ',H',J,rv,q⟩:=hs;exact fin J rv q
 | next=>
  obtain ⟨σ',H',J,q⟩:=hs;exact fin (v:=V.non) (u:=Value.none) J rfl q
 | brk=>
  obtain ⟨_,_,_,q⟩:=hs;exact False.elim q
 | cont=>
  obtain ⟨_,_,_,q⟩:=hs;exact False.elim q
end
section
variable {X:Cx}{k:Nat}{f:Addr}{fd:FuncData}{ps:List Str}{sp:Sp}{dvs:List V}{ds:List Value}{x:Str}{p pos:Pos}{e:Expr}{es:List Expr}{t:TA}
theorem bA9 (F:aW6 X.prog X.w X.K X.mg X.base k f fd ps sp)(hr:RoomU k X.A)(hg:Gl X x)(hm:X.mg x=some (.ref f))(hk:PySem.W.keepIn X.K (.ref f)=true)(hb:Binds X.K fd ps ds)(hd:Vals dvs ds)
  (ha:PA X (e::es) t) (hdb:(x==("__debug__" : Str))=false:=by decide) (he:starEach (e::es) X.env=(false,eval e X.env)::starEach es X.env:=by rfl) (hpl:(backTo pos (starEach es X.env)).any (·.1)=false:=by rfl) :
  PE X (.Call (.Name x p) (e::es) [] pos) (a3 sp dvs E0 t):=by
 refine⟨?_⟩;intro pins s σ H Q I h;refine wpAny_Call_Name_kw (Z1 I hg hm ?_ hdb);refine PySem.W.callWith_K (h₀:=X.base) I.ok.mod.kin hk (thn (ha pos pins s σ H _ I h) λus s1 ⟨vs,H1,I1,r,q⟩=>⟨I1.kIn,?_⟩) he hpl
 have r2:Vals (vs++dvs) (us++ds):=r.append hd
 have hl:(us++ds).length=ps.length:=by rw[<- r2.length];exact F.len _ _ _ _ q
 refine wpAny_call (codeAny_mono (F.run X.A X.stack s1 H1 ⟨us,[]⟩ (us++ds) (vs++dvs) Q E0 hr I1.env0 (hb s1 us I1.kIn hl) r2 q) λr s' hq=>?_)
 cases r with
 | error e=>exact False.elim hq
 | ok fl=>
  cases fl with
  | ret u=>exact I1.after hq
  | next=>exact False.elim hq
  | brk=>exact False.elim hq
  | cont=>exact False.elim hq
end
section
variable {prog:Program}{w:World}{A:Around}{E:Value->Shared->Prop}{h:Heap}{g:Array GenState}{d:Drawn}{t:Nat}{os:OsState}{a C:Addr}{o:Obj}{K:PySem.W.Frag}
theorem aP1 {R:Result->Shared->Prop}(X:K.In h)(hx:h.get? a=some o)(hc:o.cls=.ref C)(hob:PySem.W.subIn K (.ref C) (.type "object")=some true)(hq:R (.ok (.ret (.ref C))) ⟨h,g,d,t,os⟩) :
  codeAny (model prog w) A (.call (.builtin "getset_descriptor.__get__") ⟨[.builtin "object.__class__",.ref a,.ref C],[]⟩) R ⟨h,g,d,t,os⟩:=by
 have hT5:(⟨h,g,d,t,os⟩:Shared).TypeIs (.builtin "object.__class__") "getset_descriptor" := F.typeOf_object_class
 have Ls:PySem.W.Looks (model prog w) h (isSubtype (.ref C) (.type (".".intercalate ("object.__class__".cutAt '.').dropLast))) true:=by
  rw[F.owner_object_class];exact PySem.W.looks_subIn X hob
 refine codeAny_call_builtin F.slot_gs_get.plain F.entry_gs_get (F.slot_gs_get.check _ _ _ _ _ _ _ _ hT5 (F.args_gs_get _ _ _) ?_)
 repeat (any_goals (first | assumption | (with_reducible refine wpAny_loadPart_at hx ?_;rw[hc]) | with_reducible refine Ls.at ?_ | wp_step))
 refine⟨Code.quiet_builtin _ (by decide +kernel),codeAny_builtin F.entry_object_class ?_⟩
 repeat (any_goals (first | assumption | (with_reducible refine wpAny_loadPart_at hx ?_;rw[hc]) | wp_step))
structure XAt (K:PySem.W.Frag)(C:Addr):Prop where
 ob:PySem.W.subIn K (.ref C) (.type "object")=some true
 be:PySem.W.subIn K (.ref C) (.type "BaseException")=some true
 ga:PySem.W.findIn K (.ref C) "__getattribute__" = some (some (.builtin "BaseException.__getattribute__"))
 gt:PySem.W.findIn K (.ref C) "__getattr__" = some none
 cl:PySem.W.findIn K (.ref C) "__class__" = some (some (.builtin "object.__class__"))
theorem aG6 {tk:Tok}{Q:Fin->Shared->Prop}(X:K.In h)(XA:XAt K C)(hx:h.get? a=some o)(hc:o.cls=.ref C)(hq:Q (.done (.ret (.ref C))) ⟨h,g,d,t,os⟩) :
  wpAny (model prog w) A (Builtin.«object.__getattribute__» ⟨[.ref a,.str "__class__" tk],[]⟩) Q E ⟨h,g,d,t,os⟩:=by
 have hT5:(⟨h,g,d,t,os⟩:Shared).TypeIs (.builtin "object.__class__") "getset_descriptor" := F.typeOf_object_class
 have f5:=F.typeOf_object_class
 have f6:=F.slot_gs_get.lookup
 have f7:=F.slot_gs_set.lookup
 have L1:=PySem.W.looks_findIn (M:=model prog w) X XA.cl
 repeat (any_goals (first | assumption | (with_reducible refine wpAny_loadPart_at hx ?_;rw[hc]) | with_reducible refine L1.at ?_ | wp_step))
 refine aP1 X hx hc XA.ob ?_
 repeat (any_goals (first | assumption | wp_step))
theorem aZ3 {M:Model}{nameV:Value}{Q:Unit->Shared->Prop}(X:K.In h)(XA:XAt K C)(hx:h.get? a=some o)(hc:o.cls=.ref C)(hq:Q () ⟨h,g,d,t,os⟩):wpAny M A (checkBuiltinCall "BaseException.__getattribute__" ⟨[.ref a,nameV],[]⟩) Q E ⟨h,g,d,t,os⟩:=by
 have hk:builtinKind "BaseException.__getattribute__" = some .slot:=by decide +kernel
 have hsplit:splitId "BaseException.__getattribute__" = some ("BaseException", "__getattribute__"):=by decide +kernel
 have Ls:=PySem.W.looks_subIn (M:=M) X XA.be
 have ha:=F.args_bexc_ga (.ref a) nameV
 simp only[checkBuiltinCall,hk,hsplit];refine wpAny_bind ?_
 ·unfold isInstance
  repeat (first | (with_reducible refine wpAny_loadPart_at hx ?_;rw[hc]) | with_reducible refine Ls.at ?_ | wp_step)
  exact hq
theorem aY8 {tk:Tok}{fill expr:Bool}{Q:Value->Shared->Prop}(X:K.In h)(XA:XAt K C)(hx:h.get? a=some o)(hc:o.cls=.ref C)(hq:Q (.ref C) ⟨h,g,d,t,os⟩) :
  wpAny (model prog w) A (getAttrBy (.ref a) (.str "__class__" tk) fill expr) Q E ⟨h,g,d,t,os⟩:=by
 have f3:=F.excAttr_ValueError.ga.bind (.ref a)
 have hx0:(expr&&onTheHeap (Value.builtin "BaseException.__getattribute__"))=false:=by cases expr <;> rfl
 have hx2:(Value.builtin "BaseException.__getattribute__" == Value.builtin "object.__getattribute__")=false:=by decide +kernel
 have hx1:(onTheHeap (Value.ref C)&&Value.builtin "BaseException.__getattribute__" == Value.builtin "object.__getattribute__")=false:=by rw[hx2];rfl
 have L1:=PySem.W.looks_findIn (M:=model prog w) X XA.ga
 have L2:=PySem.W.looks_findIn (M:=model prog w) X XA.gt
 repeat (any_goals (first | assumption | (with_reducible refine wpAny_loadPart_at hx ?_;rw[hc]) | with_reducible refine L1.at ?_ | with_reducible refine L2.at ?_ | wp_step))
 refine codeAny_call_builtin F.excAttr_ValueError.ga.plain F.entry_bexc_ga (aZ3 X XA hx hc (aG6 X XA hx hc ?_))
 repeat (any_goals (first | assumption | wp_step))
theorem aK5 {Q:Option Value->Shared->Prop}(X:K.In h)(XA:XAt K C)(hx:h.get? a=some o)(hc:o.cls=.ref C)(hq:Q (some (.ref C)) ⟨h,g,d,t+1,os⟩):wpAny (model prog w) A (getAttr? (.ref a) "__class__") Q E ⟨h,g,d,t,os⟩:=by
 unfold getAttr? getAttrBy?
 repeat (any_goals (first | assumption | with_reducible apply aY8 X XA hx hc | wp_step))
end
section
variable {prog:Program}{w:World}{A:Around}{E:Value->Shared->Prop}{h:Heap}{g:Array GenState}{d:Drawn}{t:Nat}{os:OsState}{a C:Addr}{o:Obj}{K:PySem.W.Frag}
theorem u7 {c:Value}{b:Bool}{dep:Int}{tk:Tok}{Q:Fin->Shared->Prop}(X:K.In h)(XA:XAt K C)(hx:h.get? a=some o)(hc:o.cls=.ref C)(hty:PySem.W.Looks (model prog w) h (typeOf c) (.type "type"))(his:PySem.W.Looks (model prog w) h (isType c) true)(hisC:PySem.W.Looks (model prog w) h (isType (.ref C)) true)
  (hsub:PySem.W.Looks (model prog w) h (isSubtype (.ref C) c) b) (hne:(Value.ref C==c)=true->b=true) (hq:∀tk',Q (.done (.ret (.bool b))) ⟨h,g,d,tk',os⟩) :
  wpAny (model prog w) A (Builtin.«isinstance.nested» ⟨[.ref a,c,.int dep tk],[]⟩) Q E ⟨h,g,d,t,os⟩:=by
 have L0:PySem.W.Looks (model prog w) h (typeOf (.ref a)) (.ref C):=by
  intro A' Q' E' s' k q;unfold typeOf;exact wpAny_bind (wpAny_loadPart (k _ _ hx) (wpAny_pure (by rw[hc];exact q)))
 have LI:PySem.W.Looks (model prog w) h (isInstance (.ref a) c) b:=L0.andThen hsub
 unfold Builtin.«isinstance.nested»;refine wpAny_bind (L0.at ?_);by_cases e:(Value.ref C==c)=true
 ·have:=hne e
  subst this;rw[if_pos e];refine wpAny_bind (wpAny_rule ?_);exact wpAny_pure (hq t)
 ·rw[if_neg e];refine wpAny_bind (hty.at ?_);rw[if_pos (by decide)]
  k_delta "plainIsInstance"
  refine wpAny_bind (wpAny_bind (his.at ?_));simp only[Bool.not_true,Bool.false_eq_true,if_false];refine wpAny_bind (LI.at ?_);cases b with
  | true=>
   simp only[if_true];first
    | exact wpAny_pure (wpAny_pure (hq _))
    | exact wpAny_pure (hq _)
    | exact wpAny_bind (wpAny_pure (wpAny_pure (hq _)))
  | false=>
   simp only[Bool.false_eq_true,if_false];refine wpAny_bind (aK5 X XA hx hc ?_);refine wpAny_bind (hisC.at ?_);simp only[Bool.not_true,Bool.false_eq_true,if_false];refine wpAny_bind (wpAny_rule ?_);refine hsub.at ?_;first
    | exact wpAny_pure (hq _)
    | exact wpAny_pure (wpAny_pure (hq _))
    | exact wpAny_bind (wpAny_pure (wpAny_pure (hq _)))
end
structure XCl (K:PySem.W.Frag)(D:Addr):Prop where
 cls:(PySem.W.clsIn K D).isSome=true
 ty:PySem.W.typeIn K (.ref D)=some (.type "type")
theorem XCl.isType {K:PySem.W.Frag}{D:Addr}(x:XCl K D){M:Model}{h:Heap}(X:K.In h):PySem.W.Looks M h (PySem.isType (.ref D)) true:=by
 have e1:=x.cls
 unfold PySem.W.clsIn at e1;split at e1
 ·rename_i c' d' cd' sl' ho;intro A' Q' E' s' k q;unfold PySem.isType loadHead;exact wpAny_bind (wpAny_loadPart (k _ _ (X _ _ ho)) (wpAny_pure q))
 ·cases e1
def XIs (K:PySem.W.Frag)(C:Addr):V->Bool->Prop
 | .ref D,b=>XCl K D/\PySem.W.subIn K (.ref C) (.ref D)=some b/\(D=C->b=true)
 | .ty T,b=>typeOf (.type T)=pure (.type "type")/\PySem.W.subIn K (.ref C) (.type T)=some b
 | _,_=>False
section
variable {prog:Program}{w:World}{A:Around}{E:Value->Shared->Prop}{a C:Addr}{K:PySem.W.Frag}
def t9 (K:PySem.W.Frag)(a C:Addr)(s:Shared):Prop:=K.In s.heap/\∃o,s.heap.get? a=some o/\o.cls=.ref C
theorem m8 {y:V}{u:Value}{b:Bool}(XA:XAt K C)(XC:XCl K C)(r:RelV y u)(hy:XIs K C y b):Answers (t9 K a C) (.ref a) u b:=λdep tk=>by
 intro prog w A R s hs;obtain ⟨⟨X,o,hx,hc⟩,hq⟩:=hs;obtain ⟨h,g,d,t,os⟩:=s;cases y with
 | ref D=>
  cases r
  obtain ⟨x1,x2,x3⟩:=hy;exact u7 X XA hx hc (PySem.W.looks_typeIn X x1.ty) (x1.isType X) (XC.isType X) (PySem.W.looks_subIn X x2) (λe=>x3 (Value.ref.inj (beq_iff_eq.mp e)).symm) λtk'=>hq tk'
 | ty T=>
  cases r
  obtain ⟨x1,x2⟩:=hy;exact u7 X XA hx hc (PySem.W.Looks.of_pure x1) (PySem.W.Looks.of_pure rfl) (XC.isType X) (PySem.W.looks_subIn X x2) (λe=>by cases beq_iff_eq.mp e) λtk'=>hq tk'
 | _=>exact False.elim hy
end
section
variable {prog:Program}{w:World}{A:Around}{E:Value->Shared->Prop}{a C:Addr}{K:PySem.W.Frag}
theorem aP7 {cs:List Value}{vs:List Bool}{tp:Addr}{tk:Tok}{s:Shared}{Q:Fin->Shared->Prop}(hs:t9 K a C s)(htp:IsTup s.heap tp cs.toArray)(hne:tp≠C)(ha:AnswersAll (t9 K a C) (.ref a) cs vs)
  (hq:∀tk',Q (.done (.ret (.bool (vs.any id)))) {s with toks:=tk'}):wpAny (model prog w) A (Builtin.«isinstance.nested» ⟨[.ref a,.ref tp,.int 0 tk],[]⟩) Q E s:=by
 obtain ⟨X,o,hx,hc⟩:=hs;obtain ⟨h,g,d,t,os⟩:=s;obtain ⟨ot,ht,htc,n,htd⟩:=htp;have hT2:(⟨h,g,d,t,os⟩:Shared).TypeIs (.ref tp) "tuple" := ⟨_,ht,htc⟩;have f1:=F.isi_sub_tuple;have hneb:(Value.ref C==Value.ref tp)=false:=by
  cases q:(Value.ref C==Value.ref tp) with
  | false=>rfl
  | true=>exact absurd (Value.ref.inj (beq_iff_eq.mp q)).symm hne
 repeat (any_goals (first | assumption | (with_reducible refine wpAny_loadPart_at hx ?_;rw[hc]) | wp_step))
 rw[htd];refine wpAny_pure ?_;refine wpAny_bind ?_;simp only[Option.getD_some];rw[<- Array.forIn_toList,List.toList_toArray];refine isinstance_items (dep:=0) (P:=t9 K a C) (λs tk z=>z) cs vs _ _ ha ⟨X,o,hx,hc⟩ λtk'=>?_
 cases hv:vs.any id with
 | true=>
  simp only[if_true]
  repeat (any_goals (first | assumption | wp_step))
  exact hv▸hq tk'
 | false=>
  simp only[Bool.false_eq_true,if_false]
  repeat (any_goals (first | assumption | wp_step))
  exact hv▸hq tk'
end
def bN2 (K:PySem.W.Frag)(C:Addr):List V->List Bool->Prop
 | [],[]=>True
 | y::ys,b::bs=>XIs K C y b/\bN2 K C ys bs
 | _,_=>False
theorem aN9 {K:PySem.W.Frag}{a C:Addr}(XA:XAt K C)(XC:XCl K C):∀{ys:List V} {us:List Value} {bs:List Bool},Vals ys us->bN2 K C ys bs->AnswersAll (t9 K a C) (.ref a) us bs
 | [],_,[],.nil,_=>trivial
 | y::ys,_,b::bs,.cons r t,⟨h1,h2⟩=>⟨m8 XA XC r h1,aN9 XA XC t h2⟩
 | [],_,_::_,.nil,z=>z.elim
 | _::_,_,[],.cons _ _,z=>z.elim
end L2
namespace LV
open PySem PySem.Spec PyProof.Rows L2
section
variable {K:PySem.W.Frag}{B:Hp}{ρ ρ':List Sl}{m:Bool}{t ta tb:TE}{d d':PyData}{ds es:List PyData}
def WB (K:PySem.W.Frag)(B:Hp)(t:TS)(ρ:List Sl)(R:AE):Prop:=
 ∀(S:Addr->Prop) (D:v9) (σ:L2.St) (H:Hp) (o:Nat->List Addr),Env K S B H σ ρ o->Sat K S B R D->t D σ H
theorem W.wb {t:TS}{R:AE}(h:W K t ρ R):WB K B t ρ R:=λS D σ H o I s=>h S B D σ H o I s
theorem aG7 {t u:TS}{R:AE}(h:WB K B t ρ {R with nx:=λρ'=>WB K B u ρ' R}):WB K B (bR5 t u) ρ R:=λS D σ H o I s=>
 h S {D with nx:=u D} σ H o I ⟨λρ' σ' H' o' I' w=>w S D σ' H' o' I' s,s.rt,s.rl,s.bk,s.ct⟩
theorem cA0 {c:TT}{t u:TS}{b:Bool}{R:AE}(h:T K c ρ b)(h1:b=true->WB K B t ρ R)(h2:b=false->WB K B u ρ R):WB K B (aX1 c t u) ρ R:=λS D σ H o I s=>h S B σ H o I _ λH' s'=>by
 cases b with
 | true=>exact h1 rfl S D σ H' o (I.grow s') s
 | false=>exact h2 rfl S D σ H' o (I.grow s') s
theorem bC4 {t:TS}{N:List Str}{vs:List V}{S:Addr->Prop}{H:Hp}{Q:VK}(hS:∀b,S b->∃u:HM,H b=some u.ho)(r:Reps K (hid S H) vs ds)(w:WB K H t (sl0 N.length ds) {nx:=λ_=>d=.none,rt:=λe=>e=d})
  (k:∀v H',Same H H'->Rep K (hid S H') v d->Q v H'):t {nx:=λ_ H'=>Q .non H',rt:=Q} (L2.G3 N vs) H:=
 w S _ _ H _ (env0 hS r) ⟨λρ' σ' H' o' I' z=>k _ H' I'.base (by rw[z];exact .non),λv e H' s r' z=>k v H' s (by rw[<- z];exact r'),λ_ _ _ _ _ _ _ _ z=>z.elim,λ_ _ _ _ _ z=>z.elim,λ_ _ _ _ _ z=>z.elim⟩
theorem aI0 {t:TS}{N:List Str}{vs:List V}{S:Addr->Prop}{H:Hp}{Q:VK}(hS:∀b,S b->∃u:HM,H b=some u.ho)(r:Reps K (hid S H) vs ds)(w:WB K H t (sl0 N.length ds) {nx:=λ_=>False}):t {nx:=λ_ H'=>Q .non H',rt:=Q} (L2.G3 N vs) H:=
 w S _ _ H _ (env0 hS r) ⟨λρ' σ' H' o' I' z=>z.elim,λv e H' s r' z=>z.elim,λ_ _ _ _ _ _ _ _ z=>z.elim,λ_ _ _ _ _ z=>z.elim,λ_ _ _ _ _ z=>z.elim⟩
theorem Env.unset {S:Addr->Prop}{H:Hp}{σ:L2.St}{o:Nat->List Addr}(I:Env K S B H σ ρ o)(j:Nat):Env K S B H (σ.set j none) (ρ.set j .no) o:=by
 have at_:∀{i:Nat} {x:Sl},x≠.no->(ρ.set j .no)[i]? = some x->j≠i/\ρ[i]? = some x:=λ{i x} hx h=>by
  rw[List.getElem?_set]at h;by_cases c:j=i
  ·rw[if_pos c]at h;split at h
   ·exact absurd (Ab3 h).symm hx
   ·cases h
  ·rw[if_neg c]at h;exact⟨c,h⟩
 have no:∀{x:Sl},x.os=true->x≠.no:=λh e=>by rw[e]at h;cases h
 have sub:∀b,C3 (ρ.set j .no) o S b->C3 ρ o S b:=λb z=>m9 (x:=.no) rfl z
 have g:Same (hid (C3 ρ o S) H) (hid (C3 (ρ.set j .no) o S) H):=D1 (L2.Same.rf _) λb z _=>sub b z
 have sg:∀{i:Nat},j≠i->(σ.set j none)[i]? = σ[i]? := λc=>Ac5 c
 refine⟨by simpa using I.len,I.base,I.sl,λi x h hx b hb=>I.new i x (at_ (no hx) h).2 hx b hb,λi k x y h1 h2 h3 h4 b h5 h6=>I.inj i k x y (at_ (no h3) h1).2 (at_ (no h4) h2).2 h3 h4 b h5 h6,λi ds h=>?_,λi d h=>?_,λi d h=>?_,λi t h=>?_⟩
 ·obtain ⟨c,h⟩:=at_ (λe=>by cases e) h
  obtain ⟨p,o',a,xs,b,r⟩:=I.own i ds h;exact⟨p,o',by rw[sg c];exact a,xs,b,r.mono g⟩
 ·obtain ⟨c,h⟩:=at_ (λe=>by cases e) h
  obtain ⟨u,a,b⟩:=I.val i d h;exact⟨u,by rw[sg c];exact a,b.mono g⟩
 ·obtain ⟨c,h⟩:=at_ (λe=>by cases e) h
  obtain ⟨u,a,b⟩:=I.bor i d h;exact⟨u,by rw[sg c];exact a,b⟩
 ·obtain ⟨c,h⟩:=at_ (λe=>by cases e) h
  obtain ⟨n,u,a,b⟩:=I.tr i t h;exact⟨n,u,by rw[sg c];exact a,b.mono g (L2.Same.rf _)⟩
end
end LV
namespace L2
open PySem PySem.Spec PyProof.Rows
abbrev KT (H:Hp):List (List Key×V)->List (List Key×Addr×Value)->Prop:=Paired λp q=>p.1=q.1/\H q.2.1=some (.tup (p.1.map kV))/\RelV p.2 q.2.2
abbrev VV:List (V×V)->List (Value×Value)->Prop:=Paired λp q=>RelV p.1 q.1/\RelV p.2 q.2
abbrev KvR:List (List Int×Addr×V)->List (List Int×Addr×Value)->Prop:=Paired (λp q=>p.1=q.1/\p.2.1=q.2.1/\RelV p.2.2 q.2.2)
end L2
namespace LV
open PySem L2
end LV
namespace L2
open PySem PySem.Spec PyProof.Rows
end L2
namespace LV
open PySem L2
end LV
namespace PySem
open PySem.Spec PyProof.Rows PySem.W
end PySem
namespace L2
open PySem PySem.Spec PyProof.Rows PySem.W
end L2
namespace PySem
open PySem.Spec PyProof.Rows
end PySem
namespace L2
open PySem PySem.Spec PyProof.Rows PySem.W
end L2
namespace LV
open PySem L2
end LV
namespace L2
open PySem PySem.Spec PyProof.Rows
end L2
namespace LV
open PySem PyProof.Rows L2
end LV
namespace L2
open PySem PySem.Spec PyProof.Rows
end L2
namespace LV
open PySem PySem.Spec PyProof.Rows L2
end LV
namespace PySem
open PySem.Spec PyProof.Rows PySem.W
end PySem
namespace L2
open PySem PySem.Spec PyProof.Rows PySem.W
end L2
namespace LV
open PySem L2
end LV
namespace LV
open PySem PySem.Spec PySem.Calls PySem.W PyProof.Rows L2 Att
end LV
namespace L2
open PySem PySem.Spec PySem.W PyProof.Rows
end L2
namespace L2
open PySem PySem.Spec PyProof.Rows
theorem aQ6 {P:Program}{w:World}{X:Cx}:aB3 (CXd P w) X E0:=λ_ _ _ _ _ _ _ h=>by
 obtain ⟨_,_,_,_,_,_,_,_,_,_,_,z⟩:=h;exact z.elim
section
variable {X:Cx}{f:Str}{ta tv:TE}{e:Expr}{pos:Pos}
def bC2 (K:PySem.W.Frag)(xs:List V)(H:Hp)(Q:VK):Prop:=∃a C d y,xs=[.ref a,y]/\H a=some (excD a C d)/\XAt K C/\XCl K C/\((∃b,XIs K C y b/\Q (.bl b) H)\/∃p ys bs,y=.ref p/\SqT K H p ys/\bN2 K C ys bs/\Q (.bl (bs.any id)) H)
theorem Y8 (K:PySem.W.Frag)(hK:X.K=K:=by rfl):X5 X (.builtin "isinstance") (bC2 K):=by
 subst hK;intro pins s σ H xs us Q I r h;obtain ⟨a,C,d,y,rfl,ha,XA,XC,h⟩:=h;obtain ⟨⟨o,vs,ho,hoc,_⟩,_,_⟩:=I.hok a _ ha;have hold:t9 X.K a C s:=⟨I.kIn,o,ho,hoc⟩;cases r with
 | cons r1 r2=>
  cases r2 with
  | cons r3 r4=>
   cases r4;cases r1
   rcases h with ⟨b,hy,q⟩ | ⟨p,ys,bs,rfl,hp,hys,q⟩
   ·exact call_isinstance (S:=λ_ R s=>t9 X.K a C s/\∀tk',R (.ok (.ret (.bool b))) {s with toks:=tk'}) (λ_ _ _ _ _ hs=>isinstance_outer (m8 XA XC r3 hy _ _ _ _ _ _ _ hs) (by intro q;cases q)) ⟨hold,λtk'=>⟨.bl b,H,I.tok _,rfl,q⟩⟩
   ·cases r3
    obtain ⟨its,rv,tp,_⟩:=I.tuple hp;have hne:p≠C:=λz=>by
     subst z;have e1:=XC.cls;unfold PySem.W.clsIn at e1;split at e1
     ·rename_i c' d' cd' sl' ho';obtain ⟨ot,ht,_,n,htd⟩:=tp;rw[I.kIn _ _ ho']at ht;cases ht;cases htd
     ·cases e1
    exact call_isinstance (S:=λ_ R s=>(t9 X.K a C s/\IsTup s.heap p its.toArray)/\∀tk',R (.ok (.ret (.bool (bs.any id)))) {s with toks:=tk'}) (λ_ _ _ _ _ hs=>isinstance_outer (aP7 hs.1.1 hs.1.2 hne (aN9 XA XC rv hys) λtk'=>hs.2 tk') (by intro q;cases q)) ⟨⟨hold,tp⟩,λtk'=>⟨.bl _,H,I.tok _,rfl,q⟩⟩
end
end L2
namespace LV
open PySem PySem.Spec PyProof.Rows L2
section
variable {K:PySem.W.Frag}{H:Hp}
theorem bI4 {H':Hp}(h:∀a xs,Rd H a (.tup xs)->Rd H' a (.tup xs)){d:PyData}{v:V}(r:bH1 K H v d):bH1 K H' v d:=by
 cases d with
 | tuple ds=>
  obtain ⟨a,xs,e1,s,e⟩:=r;exact⟨a,xs,e1,s.imp (h _ _) id,e⟩
 | _=>exact r
theorem bN9 {H':Hp}(h:∀a xs,Rd H a (.tup xs)->Rd H' a (.tup xs)){vs:List (Str×V)}{fs:List (Str×PyData)}(r:FdF K H vs fs):FdF K H' vs fs:=by
 unfold FdF at *;induction r with
 | nil=>exact .nil
 | cons a _ ih=>exact .cons ⟨a.1,bI4 h a.2⟩ ih
theorem bG2 {C:Addr}{fs:List (Str×PyData)}{v:V}(r:Rep K H v (xfD C fs)):∃a dd vs,v=.ref a/\H a=some (excD a C dd)/\XdA H vs dd/\FdF K H vs fs:=by
 unfold xfD at r;generalize hfs:(fs.map λx=>((PyData.str x.1,x.2):PyData×PyData))=L at r
 cases r with
 | dic _ _ z=>exact absurd z (by rename_i kvs;cases kvs <;> simp[bX1])
 | @exd a _ dd vs fs' e x r=>
  have efs:fs'=fs:=by
   have inj:∀(u v:List (Str×PyData)),(u.map λx=>((PyData.str x.1,x.2):PyData×PyData))=(v.map λx=>(PyData.str x.1,x.2))->u=v:=λu=>by
    induction u with
    | nil=>intro v h;cases v <;> simp at h ⊢
    | cons c u ih=>
     intro v h;cases v with
     | nil=>simp at h
     | cons c' v=>
      simp only[Ac2,List.cons.injEq,Prod.mk.injEq,PyData.str.injEq]at h;rw[ih v h.2,Prod.ext h.1.1 h.1.2]
   exact inj _ _ hfs.symm
  subst efs;exact⟨a,dd,vs,rfl,e,x,r⟩
end
section
variable {K:PySem.W.Frag}{B:Hp}{ρ ρ':List Sl}{m:Bool}{t:TA}{ta tb:TE}{d d':PyData}{ds es:List PyData}
def spF (K:PySem.W.Frag)(pre:List PyData->PyData->Prop)(preX:List PyData->Addr->List (Str×PyData)->Prop):Sp:=λvs H Q E=>
 ∃ds S,(∀b,S b->∃u:HM,H b=some u.ho)/\Reps K (hid S H) vs ds/\((∃d,pre ds d/\∀v H',Same H H'->Rep K (hid S H') v d->Q v H')\/∃(C:Addr) (fs:List (Str×PyData)),preX ds C fs/\∀(H':Hp) (dd:Option Addr) (vs:List (Str×V)),Same H H'->XdA H' vs dd->FdF K H' vs fs->E (.ref C) dd H')
theorem cB4 {pre:List PyData->PyData->Prop}{preX:List PyData->Addr->List (Str×PyData)->Prop}{n:Nat}(h:∀ds d,pre ds d->ds.length=n)(h':∀ds C fs,preX ds C fs->ds.length=n):∀vs H Q E,spF K pre preX vs H Q E->vs.length=n:=by
 rintro vs H Q E ⟨ds,S,_,r,z⟩;rw[r.length];rcases z with ⟨d,p,_⟩ | ⟨C,fs,p,_⟩
 ·exact h ds d p
 ·exact h' ds C fs p
theorem aT9 {pre:List PyData->PyData->Prop}{preX:List PyData->Addr->List (Str×PyData)->Prop}{EX:XK}(ha:A K true t ρ ds)(hp:pre ds d):E K m (b9 (spF K pre preX) [] t EX) ρ d:=E.bor λS B σ H o I Q q=>ha S B σ H o I _ λvs H1 s1 r=>
 ⟨ds,C3 ρ o S,(I.grow s1).lists,by rw[List.append_nil];exact r,.inl ⟨d,hp,λv H' s' r'=>q v H' (L2.Same.tr s1 s') r'⟩⟩
theorem aL1 {pre:List PyData->PyData->Prop}{preX:List PyData->Addr->List (Str×PyData)->Prop}{EX:XK}(ha:A K true t ρ ds)(hp:pre ds d):E K m (a3 (spF K pre preX) [] EX t) ρ d:=aT9 (EX:=EX) ha hp
theorem bK7 {S:Addr->Prop}{H:Hp}{σ:L2.St}{o:Nat->List Addr}{x C:Addr}{dd:Option Addr}{vs:List (Str×V)}{fs:List (Str×PyData)}(I:Env K S B H σ ρ o)(hx:H x=some (L2.excD x C dd))(xa:XdA H vs dd)(fd:FdF K H vs fs):Rep K (hid (C3 ρ o S) H) (.ref x) (xfD C fs):=by
 refine .exd (d:=dd) (vs:=vs) (hid_some.mpr ⟨λz=>?_,hx⟩) ?_ (bN9 (λ_ _ q=>U6 I.lists q) fd)
 ·obtain ⟨u,e⟩:=I.lists x z;rw[hx]at e;exact HM.nd (Ab3 e).symm
 ·cases dd with
  | none=>exact xa
  | some dx=>
   refine hid_some.mpr ⟨λz=>?_,xa⟩
   obtain ⟨u,e⟩:=I.lists dx z;have xa:H dx=some (.xd vs):=xa;rw[xa]at e;cases u <;> cases e
theorem bA5 {y:V}{C:Addr}{fs:List (Str×PyData)}{b:Bool}(ha:E K false ta ρ (xfD C fs))(XA:XAt K C)(XC:XCl K C)(hy:XIs K C y b):E K m (tCB (bC2 K) (G5 ta (G5 (tC y) i5))) ρ (.bool b):=E.bor (E.imm (m:=false) λS B σ H o I Q q=>ha S B σ H o I _ λv H1 s1 r=>by
 obtain ⟨a,dd,vs,rfl,e,x,r⟩:=bG2 r;exact⟨_,C,_,y,rfl,e,XA,XC,.inl ⟨b,hy,q _ H1 s1 (.bl _)⟩⟩)
theorem aT5 {tc:TA}{ys:List V}{bs:List Bool}{C:Addr}{fs:List (Str×PyData)}(ha:E K false ta ρ (xfD C fs))(XA:XAt K C)(XC:XCl K C)(hc:∀(σ:L2.St) (H:Hp) (Q:List V->Hp->Prop),Q ys H->tc σ H Q)(hy:bN2 K C ys bs)(hl:ys.length<=sizeLine:=by decide):E K m (tCB (bC2 K) (G5 ta (G5 (bR6 tc) i5))) ρ (.bool (bs.any id)):=E.bor (E.imm (m:=false) λS B σ H o I Q q=>ha S B σ H o I _ λv H1 s1 r=>by
 obtain ⟨a,dd,vs,rfl,e,x,r⟩:=bG2 r;refine hc _ _ _ ⟨hl,λp hp=>?_⟩
 have g:=F4 (o:=.tup ys) hp
 exact⟨_,C,_,_,rfl,g _ _ e,XA,XC,.inr ⟨p,ys,bs,rfl,SqT.of C7,hy,q _ _ (L2.Same.tr s1 g) (.bl _)⟩⟩)
end
end LV
namespace L2
open PySem PySem.Spec PyProof.Rows
end L2
set_option maxHeartbeats 4000000
namespace K47
open PySem L2 LV PyProof.Rows
theorem aA5 {K:PySem.W.Frag}{pre:List PyData->PyData->Prop}{n:Nat}(h:∀ds d,pre ds d->ds.length=n):∀vs H Q E,spV K pre vs H Q E->vs.length=n:=λvs H Q E ⟨ds,S,d,_,r,p,_⟩=>by
 have e:=r.length
 rw[e];exact h ds d p
@[elab_as_elim] theorem us1 {M:List Value->Prop} {us:List Value} (hl:us.length=1) (h:∀a0,M [a0]):M us:=by match us,hl with | [a0],_=>exact h _
@[elab_as_elim] theorem us2 {M:List Value->Prop} {us:List Value} (hl:us.length=2) (h:∀a0 a1,M [a0,a1]):M us:=by match us,hl with | [a0,a1],_=>exact h _ _
def top (i:Nat):Stmt:=PySem.Challenge.pw_threetrees_k47_pairs_counted_and_told.main.body.getD i (.Pass ⟨0,0,0,0⟩)
abbrev Q8:Stmt:=top 15
abbrev V0:Stmt:=top 16
abbrev M2:Stmt:=top 20
abbrev S4:Stmt:=top 21
abbrev i8:Stmt:=top 22
abbrev X4:Stmt:=top 23
abbrev O9:Stmt:=top 25
abbrev R8:Stmt:=top 26
abbrev U1:Stmt:=top 27
abbrev K3:Stmt:=top 28
abbrev M1:Stmt:=top 29
abbrev M4:Stmt:=top 30
abbrev V3:Stmt:=top 31
abbrev V9:Stmt:=top 32
abbrev V7:Stmt:=top 33
abbrev i7:Stmt:=top 34
abbrev K2:Stmt:=top 35
abbrev T2:Stmt:=top 36
abbrev bF7:Stmt:=top 37
set_option genInjectivity false in
structure Ad where
 Q3:Addr
 Q7:FuncData
 U8:Addr
 S7:FuncData
 N1:Addr
 M3:FuncData
 W3:Addr
 U2:FuncData
 i4:Addr
 a7:FuncData
 X6:Addr
 X9:FuncData
 O5:Addr
 P0:FuncData
 S8:Addr
 V6:FuncData
 U0:Addr
 W1:FuncData
 K0:Addr
 K1:FuncData
 L8:Addr
 N0:FuncData
 M8:Addr
 L9:FuncData
 T6:Addr
 R9:FuncData
 S0:Addr
 U4:FuncData
 T0:Addr
 V1:FuncData
 h7:Addr
 a6:FuncData
 J9:Addr
 K6:FuncData
 U9:Addr
 V8:FuncData
 aM3:Addr
 aF1:FuncData
 D7:Addr
 E6:Addr
 L7:Addr
 L6:Addr
 X0:Addr
 F9:Addr
 G8:Addr
 F5:Addr
 L3:Addr
 G7:Addr
 B5:Addr
 G6:Addr
 C4:Addr
def Sb (K:PySem.W.Frag)(C:Addr)(L:List Value)(B:List Bool):Prop:=∀x∈L.zip B,PySem.W.subIn K (.ref C) x.1=some x.2
theorem P3 {K:PySem.W.Frag}{C:Addr}{L:List Value}{B:List Bool}{v:Value}{b:Bool}(h:Sb K C L B)(i:Nat)(e:(L.zip B)[i]? = some (v,b)):PySem.W.subIn K (.ref C) v=some b:=h _ (List.mem_of_getElem? e)
theorem sb_mk {K:PySem.W.Frag}{C:Addr}{L:List Value}{B:List Bool}(h:((L.zip B).all λx=>PySem.W.subIn K (.ref C) x.1==some x.2)=true):Sb K C L B:=λx hx=>eq_of_beq (Ac4.mp h x hx)
def sbs (a:Ad):List Value:=[.ref a.D7,.ref a.E6,.ref a.L7,.ref a.L6,.ref a.X0,.ref a.F9,.ref a.G8,.ref a.F5,.ref a.L3,.ref a.G7,.ref a.B5,.ref a.G6,.ref a.C4,.type "ValueError"]
set_option genInjectivity false in
structure Tx (K:PySem.W.Frag)(mg:Str->Option Value)(a:Ad):Prop where
 Q5:Fun K "downs_ahead" "downs_ahead" Q8 a.Q3 a.Q7
 Z4:mg "downs_ahead" = some (.ref a.Q3)
 Z3:Binds K a.Q7 ["row"] []
 l8:Fun K "first_over" "first_over" V0 a.U8 a.S7
 aH8:mg "first_over" = some (.ref a.U8)
 aG9:Binds K a.S7 ["first", "second"] []
 M9:Fun K "refuse_beyond" "refuse_beyond" M2 a.N1 a.M3
 W4:mg "refuse_beyond" = some (.ref a.N1)
 W5:Binds K a.M3 ["m", "most"] []
 N3:Fun K "many_pairs" "many_pairs" S4 a.W3 a.U2
 T7:mg "many_pairs" = some (.ref a.W3)
 S6:Binds K a.U2 ["m"] []
 aB8:Fun K "all_rows" "all_rows" i8 a.i4 a.a7
 aQ9:mg "all_rows" = some (.ref a.i4)
 aR6:Binds K a.a7 ["m"] []
 Y2:Fun K "all_pairs" "all_pairs" X4 a.X6 a.X9
 u3:mg "all_pairs" = some (.ref a.X6)
 u6:Binds K a.X9 ["m"] []
 K4:Fun K "_law_cell_at" "_law_cell_at" O9 a.O5 a.P0
 P1:mg "_law_cell_at" = some (.ref a.O5)
 O7:Binds K a.P0 ["_law_script", "_law_k"] []
 T3:Fun K "_law_mixed" "_law_mixed" R8 a.S8 a.V6
 l7:mg "_law_mixed" = some (.ref a.S8)
 l9:Binds K a.V6 ["_law_cell", "_law_k"] []
 o8:Fun K "_law_whole" "_law_whole" U1 a.U0 a.W1
 aG1:mg "_law_whole" = some (.ref a.U0)
 aH7:Binds K a.W1 ["_law_found"] []
 P6:Fun K "_law_rows_alike" "_law_rows_alike" K3 a.K0 a.K1
 j7:mg "_law_rows_alike" = some (.ref a.K0)
 k8:Binds K a.K1 ["_law_found", "_law_due"] []
 W7:Fun K "_law_products" "_law_products" M1 a.L8 a.N0
 v8:mg "_law_products" = some (.ref a.L8)
 v3:Binds K a.N0 ["_law_m"] []
 W6:Fun K "_law_all_rows" "_law_all_rows" M4 a.M8 a.L9
 v5:mg "_law_all_rows" = some (.ref a.M8)
 v4:Binds K a.L9 ["_law_m"] []
 T5:Fun K "_law_ahead" "_law_ahead" V3 a.T6 a.R9
 m5:mg "_law_ahead" = some (.ref a.T6)
 l4:Binds K a.R9 ["_law_row"] []
 l5:Fun K "_law_pairs" "_law_pairs" V9 a.S0 a.U4
 aJ4:mg "_law_pairs" = some (.ref a.S0)
 aF9:Binds K a.U4 ["_law_m"] []
 k9:Fun K "_law_kinds" "_law_kinds" V7 a.T0 a.V1
 aJ3:mg "_law_kinds" = some (.ref a.T0)
 aG0:Binds K a.V1 ["_law_e"] []
 b7:Fun K "_law_met" "_law_met" i7 a.h7 a.a6
 aB7:mg "_law_met" = some (.ref a.h7)
 z9:Binds K a.a6 ["_law_m", "_law_by_list"] []
 J8:Fun K "_law_told_right" "_law_told_right" K2 a.J9 a.K6
 Q0:mg "_law_told_right" = some (.ref a.J9)
 P9:Binds K a.K6 ["_law_m", "_law_due"] []
 j8:Fun K "_law_other" "_law_other" T2 a.U9 a.V8
 aG5:mg "_law_other" = some (.ref a.U9)
 aJ7:Binds K a.V8 ["_law_cell"] []
 bY8:Fun K "law" "law" bF7 a.aM3 a.aF1
 cD3:mg "law" = some (.ref a.aM3)
 cE7:Binds K a.aF1 ["_law_script"] []
 V4:mg "ValueError" = none
 aR3:mg "bool" = none
 P7:mg "enumerate" = none
 aK9:mg "int" = none
 B9:mg "isinstance" = none
 Z5:mg "len" = none
 aR2:mg "list" = none
 N4:mg "range" = none
 p5:mg "sorted" = none
 aU5:mg "str" = none
 aG3:mg "tuple" = none
 bE4:mg "zip" = none
 P2:∃t,mg "MOST_COUNTED" = some (.int 100 t)
 Q2:∃t,mg "MOST_LISTED" = some (.int 4 t)
 aJ6:mg "TreesError" = some (.ref a.D7)
 bM6:XCl K a.D7
 aM6:mg "NoDrawing" = some (.ref a.E6)
 aK1:XCl K a.E6
 bA2:mg "NoRows" = some (.ref a.L7)
 bC6:XCl K a.L7
 bA8:mg "NoText" = some (.ref a.L6)
 bI6:XCl K a.L6
 bV1:mg "Tied" = some (.ref a.X0)
 bU5:XCl K a.X0
 aQ7:mg "NoArrows" = some (.ref a.F9)
 aR7:XCl K a.F9
 bD6:mg "NoLand" = some (.ref a.G8)
 bE6:XCl K a.G8
 aW8:mg "NoPlace" = some (.ref a.F5)
 aY9:XCl K a.F5
 bL1:mg "NoTie" = some (.ref a.L3)
 bO0:XCl K a.L3
 bD4:mg "NoRing" = some (.ref a.G7)
 bD8:XCl K a.G7
 aE7:mg "TooMany" = some (.ref a.B5)
 R0:XCl K a.B5
 bD2:mg "NoLine" = some (.ref a.G6)
 bB0:XCl K a.G6
 aC6:mg "NothingDone" = some (.ref a.C4)
 aC8:XCl K a.C4
 S5:PySem.W.excIn K a.D7 bmV "ValueError.__new__" = true
 aN8:PySem.W.excIn K a.G8 bmV "ValueError.__new__" = true
 aD8:PySem.W.excIn K a.F5 bmV "ValueError.__new__" = true
 aW4:PySem.W.excIn K a.L3 bmV "ValueError.__new__" = true
 aL8:PySem.W.excIn K a.G7 bmV "ValueError.__new__" = true
 Y7:PySem.W.excIn K a.B5 bmV "ValueError.__new__" = true
 aJ9:PySem.W.excIn K a.G6 bmV "ValueError.__new__" = true
 Z9:PySem.W.excIn K a.C4 bmV "ValueError.__new__" = true
 N5:XAt K a.B5
 B7:Sb K a.B5 (sbs a) [true,false,false,false,false,false,false,false,false,false,true,false,false,true]
structure Ex (K:PySem.W.Frag)(n:Str)(c:Addr):Prop where
 n:PySem.W.nsIn K mainGlobals n=some (some (.ref c))
 q:XCl K c
theorem ex_mk {K:PySem.W.Frag}{n:Str}{c:Addr}{cd:ClassData}(a:PySem.W.nsIn K mainGlobals n=some (some (.ref c)))(y:PySem.W.clsIn K c=some cd)(t:PySem.W.typeIn K (.ref c)=some (.type "type")):Ex K n c:=⟨a,by rw[y];rfl,t⟩
structure Fq (K:PySem.W.Frag)(n:Str)(st:Stmt)(f:Addr)(d:FuncData):Prop where
 a:PySem.W.nsIn K mainGlobals n=some (some (.ref f))
 F:Fun K n n st f d
theorem tx_mk {K:PySem.W.Frag}{h:Heap}{mg:Str->Option Value}{f0 f1 f2 f3 f4 f5 f6 f7 f8 f9 f10 f11 f12 f13 f14 f15 f16 f17 f18 D7 E6 L7 L6 X0 F9 G8 F5 L3 G7 B5 G6 C4:Addr}(X:K.In h)(G:h.Ns mainGlobals mg)
  {d0:FuncData} (q0:Fq K "downs_ahead" Q8 f0 d0)
  {d1:FuncData} (q1:Fq K "first_over" V0 f1 d1)
  {d2:FuncData} (q2:Fq K "refuse_beyond" M2 f2 d2)
  {d3:FuncData} (q3:Fq K "many_pairs" S4 f3 d3)
  {d4:FuncData} (q4:Fq K "all_rows" i8 f4 d4)
  {d5:FuncData} (q5:Fq K "all_pairs" X4 f5 d5)
  {d6:FuncData} (q6:Fq K "_law_cell_at" O9 f6 d6)
  {d7:FuncData} (q7:Fq K "_law_mixed" R8 f7 d7)
  {d8:FuncData} (q8:Fq K "_law_whole" U1 f8 d8)
  {d9:FuncData} (q9:Fq K "_law_rows_alike" K3 f9 d9)
  {d10:FuncData} (q10:Fq K "_law_products" M1 f10 d10)
  {d11:FuncData} (q11:Fq K "_law_all_rows" M4 f11 d11)
  {d12:FuncData} (q12:Fq K "_law_ahead" V3 f12 d12)
  {d13:FuncData} (q13:Fq K "_law_pairs" V9 f13 d13)
  {d14:FuncData} (q14:Fq K "_law_kinds" V7 f14 d14)
  {d15:FuncData} (q15:Fq K "_law_met" i7 f15 d15)
  {d16:FuncData} (q16:Fq K "_law_told_right" K2 f16 d16)
  {d17:FuncData} (q17:Fq K "_law_other" T2 f17 d17)
  {d18:FuncData} (q18:Fq K "law" bF7 f18 d18)
  (V4:PySem.W.nsIn K mainGlobals "ValueError" = some none)
  (aR3:PySem.W.nsIn K mainGlobals "bool" = some none)
  (P7:PySem.W.nsIn K mainGlobals "enumerate" = some none)
  (aK9:PySem.W.nsIn K mainGlobals "int" = some none)
  (B9:PySem.W.nsIn K mainGlobals "isinstance" = some none)
  (Z5:PySem.W.nsIn K mainGlobals "len" = some none)
  (aR2:PySem.W.nsIn K mainGlobals "list" = some none)
  (N4:PySem.W.nsIn K mainGlobals "range" = some none)
  (p5:PySem.W.nsIn K mainGlobals "sorted" = some none)
  (aU5:PySem.W.nsIn K mainGlobals "str" = some none)
  (aG3:PySem.W.nsIn K mainGlobals "tuple" = some none)
  (bE4:PySem.W.nsIn K mainGlobals "zip" = some none)
  {t_MOST_COUNTED:Tok} (P2:PySem.W.nsIn K mainGlobals "MOST_COUNTED" = some (some (.int 100 t_MOST_COUNTED)))
  {t_MOST_LISTED:Tok} (Q2:PySem.W.nsIn K mainGlobals "MOST_LISTED" = some (some (.int 4 t_MOST_LISTED)))
  (ex_TreesError:Ex K "TreesError" D7)
  (ex_NoDrawing:Ex K "NoDrawing" E6)
  (ex_NoRows:Ex K "NoRows" L7)
  (ex_NoText:Ex K "NoText" L6)
  (ex_Tied:Ex K "Tied" X0)
  (ex_NoArrows:Ex K "NoArrows" F9)
  (ex_NoLand:Ex K "NoLand" G8)
  (ex_NoPlace:Ex K "NoPlace" F5)
  (ex_NoTie:Ex K "NoTie" L3)
  (ex_NoRing:Ex K "NoRing" G7)
  (ex_TooMany:Ex K "TooMany" B5)
  (ex_NoLine:Ex K "NoLine" G6)
  (ex_NothingDone:Ex K "NothingDone" C4)
  (S5:PySem.W.excIn K D7 bmV "ValueError.__new__" = true)
  (aN8:PySem.W.excIn K G8 bmV "ValueError.__new__" = true)
  (aD8:PySem.W.excIn K F5 bmV "ValueError.__new__" = true)
  (aW4:PySem.W.excIn K L3 bmV "ValueError.__new__" = true)
  (aL8:PySem.W.excIn K G7 bmV "ValueError.__new__" = true)
  (Y7:PySem.W.excIn K B5 bmV "ValueError.__new__" = true)
  (aJ9:PySem.W.excIn K G6 bmV "ValueError.__new__" = true)
  (Z9:PySem.W.excIn K C4 bmV "ValueError.__new__" = true)
  (N5:XAt K B5)
  (B7:Sb K B5 [.ref D7,.ref E6,.ref L7,.ref L6,.ref X0,.ref F9,.ref G8,.ref F5,.ref L3,.ref G7,.ref B5,.ref G6,.ref C4,.type "ValueError"] [true,false,false,false,false,false,false,false,false,false,true,false,false,true])
  : ∃a:Ad,Tx K mg a/\a.aM3=f18/\∀(s:Shared) (v:Value),BindsTo s a.aF1 ⟨[v],[]⟩ [("_law_script",v)]:=by
 refine⟨⟨f0,d0,f1,d1,f2,d2,f3,d3,f4,d4,f5,d5,f6,d6,f7,d7,f8,d8,f9,d9,f10,d10,f11,d11,f12,d12,f13,d13,f14,d14,f15,d15,f16,d16,f17,d17,f18,d18,D7,E6,L7,L6,X0,F9,G8,F5,L3,G7,B5,G6,C4⟩,⟨q0.F,PySem.W.mg_of X G q0.a,q0.F.binds λ_ _ _ _ _ _ us hl=>us1 hl λ_=>rfl,q1.F,PySem.W.mg_of X G q1.a,q1.F.binds λ_ _ _ _ _ _ us hl=>us2 hl λ_ _=>rfl,q2.F,PySem.W.mg_of X G q2.a,q2.F.binds λ_ _ _ _ _ _ us hl=>us2 hl λ_ _=>rfl,q3.F,PySem.W.mg_of X G q3.a,q3.F.binds λ_ _ _ _ _ _ us hl=>us1 hl λ_=>rfl,q4.F,PySem.W.mg_of X G q4.a,q4.F.binds λ_ _ _ _ _ _ us hl=>us1 hl λ_=>rfl,q5.F,PySem.W.mg_of X G q5.a,q5.F.binds λ_ _ _ _ _ _ us hl=>us1 hl λ_=>rfl,q6.F,PySem.W.mg_of X G q6.a,q6.F.binds λ_ _ _ _ _ _ us hl=>us2 hl λ_ _=>rfl,q7.F,PySem.W.mg_of X G q7.a,q7.F.binds λ_ _ _ _ _ _ us hl=>us2 hl λ_ _=>rfl,q8.F,PySem.W.mg_of X G q8.a,q8.F.binds λ_ _ _ _ _ _ us hl=>us1 hl λ_=>rfl,q9.F,PySem.W.mg_of X G q9.a,q9.F.binds λ_ _ _ _ _ _ us hl=>us2 hl λ_ _=>rfl,q10.F,PySem.W.mg_of X G q10.a,q10.F.binds λ_ _ _ _ _ _ us hl=>us1 hl λ_=>rfl,q11.F,PySem.W.mg_of X G q11.a,q11.F.binds λ_ _ _ _ _ _ us hl=>us1 hl λ_=>rfl,q12.F,PySem.W.mg_of X G q12.a,q12.F.binds λ_ _ _ _ _ _ us hl=>us1 hl λ_=>rfl,q13.F,PySem.W.mg_of X G q13.a,q13.F.binds λ_ _ _ _ _ _ us hl=>us1 hl λ_=>rfl,q14.F,PySem.W.mg_of X G q14.a,q14.F.binds λ_ _ _ _ _ _ us hl=>us1 hl λ_=>rfl,q15.F,PySem.W.mg_of X G q15.a,q15.F.binds λ_ _ _ _ _ _ us hl=>us2 hl λ_ _=>rfl,q16.F,PySem.W.mg_of X G q16.a,q16.F.binds λ_ _ _ _ _ _ us hl=>us2 hl λ_ _=>rfl,q17.F,PySem.W.mg_of X G q17.a,q17.F.binds λ_ _ _ _ _ _ us hl=>us1 hl λ_=>rfl,q18.F,PySem.W.mg_of X G q18.a,q18.F.binds λ_ _ _ _ _ _ us hl=>us1 hl λ_=>rfl,PySem.W.mg_none_of X G V4,PySem.W.mg_none_of X G aR3,PySem.W.mg_none_of X G P7,PySem.W.mg_none_of X G aK9,PySem.W.mg_none_of X G B9,PySem.W.mg_none_of X G Z5,PySem.W.mg_none_of X G aR2,PySem.W.mg_none_of X G N4,PySem.W.mg_none_of X G p5,PySem.W.mg_none_of X G aU5,PySem.W.mg_none_of X G aG3,PySem.W.mg_none_of X G bE4,⟨t_MOST_COUNTED,PySem.W.mg_of X G P2⟩,⟨t_MOST_LISTED,PySem.W.mg_of X G Q2⟩,PySem.W.mg_of X G ex_TreesError.n,ex_TreesError.q,PySem.W.mg_of X G ex_NoDrawing.n,ex_NoDrawing.q,PySem.W.mg_of X G ex_NoRows.n,ex_NoRows.q,PySem.W.mg_of X G ex_NoText.n,ex_NoText.q,PySem.W.mg_of X G ex_Tied.n,ex_Tied.q,PySem.W.mg_of X G ex_NoArrows.n,ex_NoArrows.q,PySem.W.mg_of X G ex_NoLand.n,ex_NoLand.q,PySem.W.mg_of X G ex_NoPlace.n,ex_NoPlace.q,PySem.W.mg_of X G ex_NoTie.n,ex_NoTie.q,PySem.W.mg_of X G ex_NoRing.n,ex_NoRing.q,PySem.W.mg_of X G ex_TooMany.n,ex_TooMany.q,PySem.W.mg_of X G ex_NoLine.n,ex_NoLine.q,PySem.W.mg_of X G ex_NothingDone.n,ex_NothingDone.q,S5,aN8,aD8,aW4,aL8,Y7,aJ9,Z9,N5,B7⟩,rfl,λs v=>?_⟩
 obtain ⟨_,_,_,_,_,_,_,_,_,rfl,_⟩:=q18.F.ex;exact .of_eq rfl
end K47
namespace LV
open PySem L2
section
variable {K:PySem.W.Frag}{ρ ρ' ρ1:List Sl}{m m':Bool}{t ta tb tc:TE}{d d':PyData}{ds es:List PyData}
theorem bV0 {i:Nat}{k:Int}{R:AE}(n:Nat)(he:E K true t ρ d)(hi:ρ[i]? = some (.own ds))(hk:E K false tb ρ (.int k))(hkn:k=n)(hn':n<ds.length)(hn:R.nx (ρ.set i (.own (ds.set n d))))(nb:aO1 ρ=true:=by rfl) :
  W K (aM1 t (bZ9 (K8 i) tb bR3)) ρ R:=λS B D σ H o I s=>by
 refine he S B σ H o I _ λx H0 s0 rx=>?_
 obtain ⟨p,hp,a,xs,b,c⟩:=(I.grow s0).own i ds hi;refine⟨_,a,?_⟩;refine hk S B σ H0 o (I.grow s0) _ λw H2 s2 rw_=>?_
 cases rw_
 have hl:=c.length
 refine⟨p,xs,k,n,rfl,rfl,s2 _ _ b,by unfold ixN;rw[if_pos (by omega),if_pos (by omega)];simp[hkn],?_⟩
 exact s.nx _ σ _ _ (((I.grow s0).grow s2).upd hi hp ((c.mono (G1 s2)).set n (rx.mono (G1 s2))) (N9 nb)) hn
end
end LV
namespace LV
open PySem PyProof.Rows L2
end LV
set_option maxHeartbeats 1000000
namespace K47
open PySem L2 LV PyProof.Rows
theorem v0:C2 ["_law_script", "_law_k"] ["_law_script", "_law_k"] (A9 O9):=⟨rfl,rfl,rfl,by decide +kernel,rfl,by decide +kernel,by decide +kernel⟩
theorem bF0 {K:PySem.W.Frag}{pre:List PyData->List PyData->Prop}{n:Nat}(h:∀ds d,pre ds d->ds.length=n):∀vs H Q E,spL K pre vs H Q E->vs.length=n:=λvs H Q E ⟨ds,S,d,_,r,p,_⟩=>by
 have e:=r.length
 rw[e];exact h ds d p
def cl (ns:List Int)(k:Int):Int:=(ns[k.toNat]?).getD 0
def aT0 (ds:List PyData)(d:PyData):Prop:=∃ns k,0<=k/\ds=[lI ns,.int k]/\d=.int (cl ns k)
theorem aC4:C2 ["_law_cell", "_law_k"] ["_law_cell", "_law_k"] (A9 R8):=⟨rfl,rfl,rfl,by decide +kernel,rfl,by decide +kernel,by decide +kernel⟩
theorem aI6 {i j:Int}(h : -1000000000000000000<i/\i<1000000000000000000)(h' : -1000000000000000000<j/\j<1000000000000000000):CMulB i j:=by
 have:(1000000000000000000:Nat)<2^512:=by decide
 constructor <;> omega
def mx0 (c k:Int):Int:=(c % 1000000007*(k+3)*48271+(k+1)*(k+5)*69621) % 2147483647
def mx (c k:Int):Int:=mx0 c k*40692 % 2147483399
theorem bY6 (c k:Int):0<=mx0 c k/\mx0 c k<2147483647:=⟨Int.emod_nonneg _ (by decide),Int.emod_lt_of_pos _ (by decide)⟩
def bG5 (ds:List PyData)(d:PyData):Prop:=∃c k,(0<=k/\k<=1000)/\ds=[.int c,.int k]/\d=.int (mx c k)
theorem bI9 {x y A B:Int}(h:0<=x/\x<=A)(h':0<=y/\y<=B):0<=x*y/\x*y<=A*B:=⟨Int.mul_nonneg h.1 h'.1,Int.mul_le_mul h.2 h'.2 h'.1 (Int.le_trans h.1 h.2)⟩
section
variable {P:Program}{w:World}{K:PySem.W.Frag}{mg:Str->Option Value}{base:Heap}{a:Ad}
theorem bN7 (T:Tx K mg a):D6 P w K mg base CX0 1 a.O5 a.P0 ["_law_script", "_law_k"] (spV K aT0):=by
 refine T.K4.ok v0 (aA5 λds d ⟨_,_,_,e,_⟩=>by rw[e];rfl) (λcdv A outer s H vs Q E hr h=>?_)
 obtain ⟨ds,S,d,hS,r,⟨ns,k,h0,rfl,rfl⟩,q⟩:=h;refine⟨_,(A5 (O6 (C9 aL0 (pv 1) (C1 m3 (by rfl) T.Z5 PySem.boot_len (A0 (pv 0) A2)) (D9 _)) (A8 (C6 (G0 bC9 (pv 0) (pv 1) (λ_ _=>rfl)))) E7)
   (A8 (C6 A7))),Q9 hS r ?_ q⟩
 refine B6 (c0 (H9 (y3 (A1 rfl) (aU2 (A3 (A1 rfl) B0)))) (λh=>(K5 (d:=.int (cl ns k)) (h8 (A1 rfl) (A1 rfl) rfl ?_) rfl)) (λh=>G9 ?_))
 ·have h:k<(ns.map PyData.int).length:=of_decide_eq_true h
  rw[Aa3]at h;refine W0 k.toNat (by omega) ?_
  have hl:k.toNat<ns.length:=by omega
  rw[Aa8,Aa2 hl];unfold cl;rw[Aa2 hl];rfl
 have h:¬k<((ns.map PyData.int).length:Int):=of_decide_eq_false h
 rw[Aa3]at h;refine(K5 B1 ?_);show PyData.int 0=.int (cl ns k);unfold cl;rw[Ac9 (by omega)];rfl
theorem bB6 (T:Tx K mg a):D6 P w K mg base CX0 1 a.S8 a.V6 ["_law_cell", "_law_k"] (spV K bG5):=by
 refine T.T3.ok aC4 (aA5 λds d ⟨_,_,_,e,_⟩=>by rw[e];rfl) (λcdv A outer s H vs Q E hr h=>?_)
 obtain ⟨ds,S,d,hS,r,⟨c,k,⟨h0,h1⟩,rfl,rfl⟩,q⟩:=h;have b1:0<=c % 1000000007/\c % 1000000007<=1000000007:=⟨Int.emod_nonneg _ (by decide),Int.le_of_lt (Int.emod_lt_of_pos _ (by decide))⟩
 have b2:=bI9 b1 (y:=k+3) (B:=2000) ⟨by omega,by omega⟩
 have b3:=bI9 (x:=k+1) (A:=2000) (y:=k+5) (B:=2000) ⟨by omega,by omega⟩ ⟨by omega,by omega⟩
 have b4:=bY6 c k
 refine⟨_,(A8 (C6 (B4 M5 (B4 E9 (B4 M5 (B4 F8 (B4 E9 (B4 E9 (B4 M5 (pv 0) A7) (B4 F8 (pv 1) A7)) A7) (B4 E9 (B4 E9 (B4 F8 (pv 1) A7) (B4 F8 (pv 1) A7)) A7)) A7) A7) A7))),Q9 hS r ?_ q⟩;refine K5 (d:=.int (mx c k)) (e_i (e_i (i:=mx0 c k) (e_i (Q1 (e_i (e_i (e_i (A1 rfl) B1 ?_) (Q1 (A1 rfl) B1) ?_) B1 ?_) (e_i (e_i (Q1 (A1 rfl) B1) (Q1 (A1 rfl) B1) ?_) B1 ?_)) B1 ?_) B1 (aI6 (by omega) (by omega))) B1 (by decide)) rfl
 ·decide
 ·exact aI6 (by omega) (by omega)
 ·exact aI6 (by omega) (by omega)
 ·exact aI6 (by omega) (by omega)
 ·exact aI6 (by omega) (by omega)
 ·decide
end
end K47
namespace LV
open PySem PySem.Spec PyProof.Rows L2
end LV
namespace L2
open PySem PySem.Spec PyProof.Rows
section
variable {X:Cx}
def bM3:V->Option Int->Option Int->Hp->VK->Prop:=λx lo hi H Q=>∃(z:Str) (a b:Nat),x=.str z/\z.length<=sizeLine/\a<=b/\b<=z.length/\((lo=none/\a=0)\/lo=some (a:Int))/\((hi=none/\b=z.length)\/hi=some (b:Int))/\Q (.str ⟨((z.cps.toList.drop a).take (b-a)).toArray⟩) H
theorem bG6 (z:Str){lo hi:Option Int}{a b:Nat}(hab:a<=b)(hb:b<=z.length)(h1:(lo=none/\a=0)\/lo=some (a:Int))(h2:(hi=none/\b=z.length)\/hi=some (b:Int)):Builtin.Str.strSliceIndices lo hi 1 z.length=(List.range (b-a)).map (λk=>a+k):=by
 rw[<- PySem.StrLaws.strSliceIndices_plain hab hb];unfold Builtin.Str.strSliceIndices;have e1:max (0:Int) (min (z.length:Int) (z.length:Int))=z.length:=by omega
 have e2:max (0:Int) (min (0:Int) (z.length:Int))=0:=by omega
 rcases h1 with ⟨rfl,rfl⟩ | rfl <;> rcases h2 with ⟨rfl,rfl⟩ | rfl <;> simp[e1,e2,show ¬((z.length:Int)<0) by omega]
theorem bD5:SlR X bM3:=by
 intro pins s σ H x v vl vu lo hi sl Q I rx hs pl pu ⟨z,a,b,ex,hzl,hab,hb,h1,h2,q⟩;subst ex;obtain ⟨t,rfl⟩:=rx;obtain ⟨l,el,el2⟩:∃l:Option (Int×Tok),vl=partValue l/\l.map (·.1)=lo:=by
  cases pl with
  | none=>exact⟨none,rfl,rfl⟩
  | int i t=>exact⟨some (i,t),rfl,rfl⟩
 obtain ⟨u,eu,eu2⟩:∃u:Option (Int×Tok),vu=partValue u/\u.map (·.1)=hi:=by
  cases pu with
  | none=>exact⟨none,rfl,rfl⟩
  | int i t=>exact⟨some (i,t),rfl,rfl⟩
 refine⟨"str",_,F.slot_str_getitem.lookup,typeIs_str s z t,?_⟩;have hs':s.heap.IsSlice sl l u none:=by
  obtain ⟨o,h1,h2,h3⟩:=hs;exact⟨o,h1,h2,by rw[h3,el,eu];rfl⟩
 refine wpAny_getItem_str_slice hs' rfl ?_;have ep:slicePicked z l u none=(List.range (b-a)).map (λk=>a+k):=by
  unfold slicePicked;rw[el2,eu2];exact bG6 z hab hb h1 h2
 have ef:((slicePicked z l u none).filterMap (z.cps[·]?))=(z.cps.toList.drop a).take (b-a):=by
  rw[ep];have h:=PySem.StrLaws.picks z.cps.toList (b-a) a (by simp[Str.length]at hb ⊢;omega)
  simpa using h
 unfold sliceMade;split
 ·rename_i hc;have hl:b-a=z.length:=by
   rw[ep]at hc;simp at hc;exact hc
  have e:(⟨((z.cps.toList.drop a).take (b-a)).toArray⟩:Str)=z:=by
   have ha:a=0:=by omega
   subst ha
   have:b=z.cps.toList.length:=by simp[Str.length]at hl hb ⊢;omega
   rw[List.drop_zero,Nat.sub_zero,this,List.take_length]
  rw[e]at q;exact⟨.str _,H,I,⟨_,rfl⟩,q⟩
 ·rw[ef];refine⟨?_,.str _,H,I.tok _,⟨_,rfl⟩,q⟩;show((z.cps.toList.drop a).take (b-a)).toArray.size<=sizeLine;rw[Ab1,Ac6,List.length_drop];simp only[Str.length]at hzl
  simp;omega
end
end L2
namespace LV
open PySem L2
def tx (l:List Nat):Str:=⟨l.toArray⟩
theorem c9 (l:List Nat):(tx l).length=l.length:=by simp[tx,Str.length]
theorem bV3 (a b:List Nat):tx a++tx b=tx (a++b):=by
 show Str.mk _=Str.mk _
 congr 1
 simp[tx]
section
variable {K:PySem.W.Frag}{ρ:List Sl}{m:Bool}{ta tb td:TE}{t:TA}
theorem aH1 {a b:List Nat}(ha:E K false ta ρ (.str (tx a)))(hb:E K false tb ρ (.str (tx b)))(hl:a.length+b.length<=10000) :
  E K m (tOp (λx y H Q=>∃i j,x=.str i/\y=.str j/\i.length+j.length<=sizeLine/\Q (.str (i++j)) H) ta tb) ρ (.str (tx (a++b))):=aO6 false false ha hb λS H x y Q _ rx ry q=>by
 cases rx;cases ry
 refine⟨_,_,rfl,rfl,by rw[c9,c9];unfold sizeLine;omega,?_⟩
 rw[bV3];exact q _ H (L2.Same.rf _) (.str _)
theorem bY2 {tl th:TO}{lo hi:Option Int}{z:List Nat}{a b:Nat}(ha:E K false ta ρ (.str (tx z)))(hl:O K tl ρ lo)(hh:O K th ρ hi)(hz:z.length<=10000)(hab:a<=b)(hb:b<=z.length)(h1:(lo=none/\a=0)\/lo=some (a:Int))(h2:(hi=none/\b=z.length)\/hi=some (b:Int)) :
  E K m (tSl bM3 ta tl th) ρ (.str (tx ((z.drop a).take (b-a)))):=E.bor (E.imm (m:=false) λS B σ H o I Q q=>ha S B σ H o I _ λx H1 s1 rx=>hl S B σ H1 o (I.grow s1) _ λH2 s2=>hh S B σ H2 o ((I.grow s1).grow s2) _ λH3 s3=>by
 cases rx
 refine⟨tx z,a,b,rfl,by rw[c9];unfold sizeLine;omega,hab,by rw[c9];exact hb,h1,by rw[c9];exact h2,?_⟩
 have:=q (.str (tx ((z.drop a).take (b-a)))) H3 (L2.Same.tr s1 (L2.Same.tr s2 s3)) (.str _)
 simpa[tx]using this)
end
end LV
namespace L2
open PySem PySem.Spec PyProof.Rows
end L2
namespace LV
open PySem L2
section
variable {K:PySem.W.Frag}{ρ:List Sl}{m:Bool}{ta tb td:TE}{t:TA}
def sgD (l:List Nat):List PyData:=l.map λc=>PyData.str (tx [c])
end
end LV
namespace L2
open PySem PySem.Spec PyProof.Rows
section
variable {X:Cx}{tg:Expr}
theorem aA6 (K:PySem.W.Frag){T:String}{name:Str}{id:String}{r:V->List V->Hp->VK->Prop}{o e:Expr}{es:List Expr}{to:TE}{t:TA}{apos cpos:Pos}(pa:PlainAttrs T)(slot:Slot T name id)(hty:typeOf (.builtin id)=pure (.type "method_descriptor"))(hm:MtR X id r)(ho:PE X o to)(ha:PA X (e::es) t)
  (h:X.K=K:=by rfl) (hbase:attributeBase o name X.env (eval o X.env)=eval o X.env:=by rfl)
  (hfew:((backTo cpos (starEach (e::es) X.env)).all (λx => !x.1)&&(backToKw cpos (keywordEach [] X.env)).all (λx=>x.1.isSome)
   && decide ((e::es).length+([]:List Keyword).length+(if([]:List Keyword).isEmpty then 0 else 1)<30))=true:=by rfl)
  (hline:(apos.endLine==cpos.line)=true:=by rfl) (hs:starEach (e::es) X.env=(false,eval e X.env)::starEach es X.env:=by rfl) (hplain:(backTo cpos (starEach es X.env)).any (·.1)=false:=by rfl) :
  PE X (.Call (.Attribute o name apos) (e::es) [] cpos) (tBM K T r to t):=h▸X2 pa slot hty hm ho ha hbase hfew hline hs hplain
end
end L2
namespace LV
open PySem L2
section
variable {K:PySem.W.Frag}{ρ:List Sl}{m:Bool}{ta tb td:TE}{t:TA}
theorem V5 {x y:Str}(h:x=y):E K m (tC (.str x)) ρ (.str y):=h▸Z7
theorem bZ5 {z:List Nat}{i:Int}{c:Nat}(ha:E K false ta ρ (.str (tx z)))(hb:E K false tb ρ (.int i))(hz:z.length<=10000)(hc:atI z i=some c):E K m (tOp (rIx K) ta tb) ρ (.str (tx [c])):=aO6 false false ha hb λS H x y Q _ rx ry q=>by
 cases rx;cases ry
 exact .inr (.inr ⟨tx z,i,c,rfl,rfl,by rw[c9];unfold PySem.sizeLine;omega,by simpa[tx]using hc,q _ H (L2.Same.rf _) (.str _)⟩)
end
end LV
namespace L2
open PySem PySem.Spec PyProof.Rows
end L2
namespace LV
open PySem PySem.Spec PyProof.Rows L2
section
variable {K:PySem.W.Frag}{B:Hp}{ρ ρ':List Sl}{m:Bool}{tA:TA}{ta:TE}{d:PyData}{ds:List PyData}{pre:List PyData->PyData->Prop}{preX:List PyData->Addr->List (Str×PyData)->Prop}
theorem o7 {EK:XK}{R:AE}(ha:A K true tA ρ ds)
  (hz:(∃d,pre ds d/\R.nx ρ)\/∃(CE:Addr) (gs:List (Str×PyData)),preX ds CE gs/\∀(H':Hp) (dd:Option Addr) (vs:List (Str×V)),Same B H'->XdA H' vs dd->FdF K H' vs gs->EK (.ref CE) dd H') :
  WB K B (Z6 (a3 (spF K pre preX) [] EK tA)) ρ R:=λS D σ H o I s=>ha S B σ H o I _ λvs H1 s1 r=>by
 have I1:=I.grow s1
 refine⟨_,C3 ρ o S,I1.lists,by rw[List.append_nil];exact r,?_⟩
 rcases hz with ⟨d,hp,hn⟩ | ⟨CE,gs,hp,hx⟩
 ·exact .inl ⟨d,hp,λv H' s' r=>s.nx _ σ H' o (I1.grow s') hn⟩
 ·exact .inr ⟨CE,gs,hp,λH' dd vs s' e1 e2=>hx H' dd vs (L2.Same.tr I1.base s') e1 e2⟩
end
end LV
namespace L2
open PySem PySem.Spec PyProof.Rows
abbrev TF:=St->Hp->(Hp->Prop)->Prop
structure PF (X:Cx)(n:Nat)(parts:List Expr)(t:TF):Prop where
 mk ::
 run:∀(pins:List (Addr×Obj)) (s:Shared) (σ:St) (H:Hp) (acc:Str) (Q:VK),Inv X pins σ H s->acc.length<=n->(t σ H λH'=>∀out,Q (.str out) H')->wpAny (model X.prog X.w) X.A (joinParts acc (evalEach parts X.env)) (EP X pins σ Q) X.xe s
section
variable {X:Cx}{n:Nat}
def bY0:TF:=λ_ H k=>k H
def cC7 (te:TE)(t:TF):TF:=λσ H k=>te σ H λv H1=>∃i:Int,v=.int i/\(-1000000<i/\i<1000000)/\t σ H1 k
theorem bS2 (hn:n<=sizeLine:=by decide):PF X n [] bY0:=⟨λpins s σ H acc Q I ha h=>joinParts_nil ⟨.str acc,H,I.tok _,⟨_,rfl⟩,h acc⟩ (Nat.le_trans ha hn)⟩
theorem bX5 {x:Str}{j pos}{rest:List Expr}{t:TF}(h:PF X (n+x.length) rest t)(hn:n+x.length<=sizeLine:=by decide):PF X n (.Constant (.str x) j pos::rest) t:=by
 refine⟨λpins s σ H acc Q I ha k=>?_⟩
 show wpAny _ _ (joinParts acc (eval (.Constant (.str x) j pos) X.env::evalEach rest X.env)) _ _ s
 refine joinParts_cons (Calls.Constant_str ?_);have e:(acc++x).length<=n+x.length:=by rw[strLen_append];omega
 exact⟨Nat.le_trans e hn,h.run pins _ σ H (acc++x) Q (I.tok _) e k⟩
theorem bT3 {e:Expr}{pos}{rest:List Expr}{te:TE}{t:TF}(he:PE X e te)(h:PF X (n+8) rest t)(hn:n+8<=sizeLine:=by decide):PF X n (.FormattedValue e (-1) none pos::rest) (cC7 te t):=by
 refine⟨λpins s σ H acc Q I ha k=>?_⟩
 show wpAny _ _ (joinParts acc (eval (.FormattedValue e (-1) none pos) X.env::evalEach rest X.env)) _ _ s
 refine joinParts_cons (FormattedValue_plain (thn (he pins s σ H _ I k) λv s1 ⟨x,H1,I1,r1,i,e1,hb,k1⟩=>?_))
 subst e1;obtain ⟨u,rfl⟩:=r1;have hs:i.natAbs<10^6:=by omega
 have hd:i.natAbs.log2<1920:=by
  rcases Nat.eq_zero_or_pos i.natAbs with z | z
  ·rw[z];decide
  ·refine(Nat.log2_lt (by omega)).mpr (Ab6 (show i.natAbs<2^20 by omega) (Nat.pow_le_pow_right (by decide) (by decide)))
 refine formatField_int_small hd ?_;have hl:(Str.ofString (toString i)).length<=8:=by rw[PySem.ofString_length];have:=int_text_length_le10 (a:=i) (k:=6) (by decide) hs;omega
 have e2:(acc++Str.ofString (toString i)).length<=n+8:=by rw[strLen_append];omega
 exact⟨Nat.le_trans e2 hn,h.run pins _ σ H1 _ Q (I1.tok _) e2 k1⟩
def tFs (t:TF):TE:=λσ H Q=>t σ H λH'=>∀out,Q (.str out) H'
theorem bK1 {v1 v2:Expr}{rest:List Expr}{pos}{t:TF}(h:PF X 0 (v1::v2::rest) t):PE X (.JoinedStr (v1::v2::rest) pos) (tFs t):=by
 refine⟨?_⟩;intro pins s σ H Q I k;exact JoinedStr_many (h.run pins s σ H Str.empty Q I (by decide) k)
end
end L2
namespace SRT
open PySem PyProof.Rows
structure PSt where
 a:Array Nat
 p:Array (Nat×Nat×Nat)
 g:Nat
abbrev PM:=StateT PSt Option
section
variable {M:Model}{A:Around}{E:Value->Shared->Prop}{s:Shared}{kd:SortKind}{f:Nat->Keyed}{n:Nat}{o:Nat->Nat->Bool}{α β γ δ:Type}
def W9 (kd:SortKind)(f:Nat->Keyed)(x:PSt):SortSt:=SortSt.mk' kd (x.a.map f) x.p x.g none
def Lf (M:Model)(A:Around)(E:Value->Shared->Prop)(s:Shared)(kd:SortKind)(f:Nat->Keyed)(F:β->α)(m:StateT SortSt Sem α)(p:PM β):Prop:=
 ∀x b x',p x=some (b,x')->∀Q:α->SortSt->Prop,Q (F b) (W9 kd f x')->wpS M A E s m Q (W9 kd f x)
theorem A6 {F:β->α}{b:β}{a:α}(h:a=F b):Lf M A E s kd f F (pure a) (pure b:PM β):=λx b' x' e Q q=>by
 have e:some (b,x)=some (b',x'):=e
 cases e
 exact wpS_pure (by rw[h];exact q)
theorem A4 {F:β->α}{G:δ->γ}{m:StateT SortSt Sem α}{k:α->StateT SortSt Sem γ}{p:PM β}{q:β->PM δ}(h1:Lf M A E s kd f F m p)(h2:∀b,Lf M A E s kd f G (k (F b)) (q b)):Lf M A E s kd f G (m >>= k) (p >>= q):=λx d x' e Q hq=>by
 have e:(p x).bind (λr=>q r.1 r.2)=some (d,x'):=e
 cases hp:p x with
 | none=>rw[hp]at e;cases e
 | some r=>
  rw[hp]at e;exact wpS_bind (h1 x r.1 r.2 hp _ (h2 r.1 r.2 d x' e Q hq))
theorem D5 {F:β->α}{m:StateT SortSt Sem α}:Lf M A E s kd f F m (λ_=>none):=λx b x' e=>by cases e
theorem Y1:Lf M A E s kd f (W9 kd f) get (λx=>some (x,x)):=λx b x' e Q q=>by
 cases e
 exact wpS_get q
theorem y6 {h:SortSt->SortSt}{g:PSt->PSt}(e:∀x,h (W9 kd f x)=W9 kd f (g x)):Lf M A E s kd f id (modify h:StateT SortSt Sem PUnit) (λx=>some (⟨⟩,g x)):=λx b x' e' Q q=>by
 cases e'
 exact wpS_modify (by rw[e];exact q)
theorem C8 {F:β->α}{c:Prop}[Decidable c]{m m':StateT SortSt Sem α}{p p':PM β}(h:c->Lf M A E s kd f F m p)(h':¬c->Lf M A E s kd f F m' p'):Lf M A E s kd f F (if c then m else m') (if c then p else p'):=by
 by_cases z:c
 ·rw[if_pos z,if_pos z];exact h z
 ·rw[if_neg z,if_neg z];exact h' z
theorem aF8 {prog:Program}{w:World}{r:String}:Lf (model prog w) A E s kd f id (liftM (rule r:Sem Unit):StateT SortSt Sem Unit) (pure ()):=λx b x' e Q q=>by
 have e:some ((),x)=some (b,x'):=e
 cases e
 exact wpS_lift (wpAny_rule ⟨rfl,q⟩)
def stF (F:β->α):ForInStep β->ForInStep α
 | .done c=>.done (F c)
 | .yield c=>.yield (F c)
def N8:List Nat->β->(Nat->β->PM (ForInStep β))->PM β
 | [],c,_=>pure c
 | i::l,c,g=>g i c >>= λr=>match r with
  | .done c=>pure c
  | .yield c=>N8 l c g
theorem aS4 {F:β->α}{b:Nat->α->StateT SortSt Sem (ForInStep α)}{g:Nat->β->PM (ForInStep β)}(h:∀i c,Lf M A E s kd f (stF F) (b i (F c)) (g i c)):∀(l:List Nat) (c:β),Lf M A E s kd f F (forIn l (F c) b) (N8 l c g)
 | [],c=>by rw[List.forIn_nil];exact A6 rfl
 | i::l,c=>by
  rw[List.forIn_cons];refine A4 (h i c) λr=>?_
  cases r with
  | done c=>exact A6 rfl
  | yield c=>exact aS4 h l c
theorem K7 {F:β->α}{lo hi:Nat}{c:β}{c':α}{b:Nat->α->StateT SortSt Sem (ForInStep α)}{g:Nat->β->PM (ForInStep β)}(hc:c'=F c)(h:∀i c,Lf M A E s kd f (stF F) (b i (F c)) (g i c)):Lf M A E s kd f F (forIn [lo:hi] c' b) (N8 (List.range' lo (hi-lo)) c g):=by
 rw[Std.Legacy.Range.forIn_eq_forIn_range',hc];have hsz:([lo:hi]:Std.Legacy.Range).size=hi-lo:=by simp[Std.Legacy.Range.size]
 show Lf M A E s kd f F (forIn (List.range' lo ([lo:hi]:Std.Legacy.Range).size 1) (F c) b) _
 rw[hsz];exact aS4 h _ c
def Cmp (M:Model)(A:Around)(s:Shared)(kd:SortKind)(f:Nat->Keyed)(n:Nat)(o:Nat->Nat->Bool):Prop:=∀i j,i<n->j<n->∀(Q:Bool->Shared->Prop) (E:Value->Shared->Prop),Q (o i j) s->wpAny M A (keyLt' kd (f i).1 (f j).1) Q E s
def plt (n:Nat)(o:Nat->Nat->Bool)(i j:Nat):PM (Option Bool):=λx=>if i<n/\j<n then some (some (o i j),x) else none
theorem aV4 (C:Cmp M A s kd f n o)(i j:Nat):Lf M A E s kd f id (lt' (f i) (f j)) (plt n o i j):=λx b x' e Q q=>by
 unfold plt at e;by_cases h:i<n/\j<n
 ·rw[if_pos h]at e;cases e;rw[lt'_eq];refine wpS_bind (wpS_get ?_);refine wpS_bind (wpS_lift (wpAny_attempt (C i j h.1 h.2 _ _ ⟨rfl,?_⟩)));exact wpS_pure q
 ·rw[if_neg h]at e;cases e
def pel (arr:Array Nat)(i:Nat):PM Nat:=λx=>match arr[i]? with
 | some k=>some (k,x)
 | none=>none
theorem P8 {arr:Array Nat}{arr':Array Keyed}(h:arr'=arr.map f)(i:Nat):Lf M A E s kd f f (elem' arr' i) (pel arr i):=λx b x' e Q q=>by
 subst h;unfold pel at e;rw[elem'_eq,Array.getElem?_map];cases ha:arr[i]? with
 | none=>rw[ha]at e;cases e
 | some k=>
  rw[ha]at e;cases e;exact wpS_pure q
def aN3 (n:Nat)(o:Nat->Nat->Bool)(i j:Nat):PM (Option Bool):=do
 let x <- (λx=>some (x,x):PM PSt)
 let k <- pel x.a i
 let l <- pel x.a j
 plt n o k l
theorem aI8 (C:Cmp M A s kd f n o)(i j:Nat):Lf M A E s kd f id (ltAt' i j) (aN3 n o i j):=by
 rw[ltAt'_eq];unfold aN3;exact A4 Y1 λx=>A4 (P8 rfl i) λk=>A4 (P8 rfl j) λl=>aV4 C k l
theorem bH5 (a:Array Nat)(i j:Nat):(a.map f).swapIfInBounds i j=(a.swapIfInBounds i j).map f:=by
 rw[Array.swapIfInBounds_def,Array.swapIfInBounds_def];by_cases hi:i<a.size
 ·rw[dif_pos (by simpa using hi),dif_pos hi]
  by_cases hj:j<a.size
  ·rw[dif_pos (by simpa using hj),dif_pos hj]
   have e:=getElem?_swapIB (xs:=a.map f) (i:=i) (j:=j) (by simpa using hi) (by simpa using hj)
   have e':=getElem?_swapIB (xs:=a) hi hj
   rw[Array.swapIfInBounds_def,dif_pos (by simpa using hi),dif_pos (by simpa using hj)]at e
   rw[Array.swapIfInBounds_def,dif_pos hi,dif_pos hj]at e';refine Array.ext_getElem? λk=>?_
   simp only[e,Array.getElem?_map,e'];split
   ·rfl
   ·split <;> rfl
  ·rw[dif_neg (by simpa using hj),dif_neg hj]
 ·rw[dif_neg (by simpa using hi),dif_neg hi]
theorem aO3 {κ:Type}(p q:κ->Nat):∀(l:List κ) (a:Array Nat),l.foldl (λa k=>a.swapIfInBounds (p k) (q k)) (a.map f)=(l.foldl (λa k=>a.swapIfInBounds (p k) (q k)) a).map f
 | [],a=>rfl
 | k::l,a=>by rw[List.foldl_cons,List.foldl_cons,bH5,aO3 p q l]
def bO2 (src dst:Nat):PM PUnit:=λx=>some (⟨⟩,{x with a:=bubble x.a src (src-dst)})
theorem bK0 (i j:Nat):Lf M A E s kd f id (moveDown' i j) (bO2 i j):=by
 rw[moveDown'_eq];exact y6 λx=>by
  show SortSt.mk' kd (bubble (x.a.map f) i (i-j)) x.p x.g none=SortSt.mk' kd ((bubble x.a i (i-j)).map f) x.p x.g none
  unfold bubble;rw[aO3]
def bE2:PM Unit:=pure ()
def pup (n:Nat)(o:Nat->Nat->Bool)(lo:Nat)(_:Nat)(c:Option (Option Nat)×Nat):PM (ForInStep (Option (Option Nat)×Nat)):=aN3 n o (lo+c.2) (lo+c.2-1) >>= λr=>match r with
 | some sm=>if sm=true then pure (.done (none,c.2)) else pure (.yield (none,c.2+1))
 | none=>λ_=>none
def aR5 (n:Nat)(o:Nat->Nat->Bool)(lo nrem:Nat):PM (Option Nat):=
 N8 (List.range' 1 (nrem-1)) (none,1) (pup n o lo) >>= λc=>match c with
 | (some _,_)=>λ_=>none
 | (none,k)=>if(k==nrem)=true then pure (some k) else if k>1 then aN3 n o lo (lo+k-1) >>= λr=>match r with
   | some true=>pure (some k)
   | _=>λ_=>none
  else λ_=>none
theorem aZ8 {prog:Program}{w:World}(C:Cmp (model prog w) A s kd f n o)(lo nrem:Nat):Lf (model prog w) A E s kd f id (countRun' lo nrem) (aR5 n o lo nrem):=by
 rw[countRun'_eq];unfold aR5;refine A4 (F:=id) (K7 rfl λi c=>?_) λc=>?_
 ·unfold pup;refine A4 (F:=id) (aI8 C _ _) λr=>?_
  cases r with
  | none=>exact D5
  | some sm=>exact C8 (λ_=>A6 rfl) (λ_=>A6 rfl)
 ·obtain ⟨q,k⟩:=c;cases q with
  | some q=>exact D5
  | none=>
   refine C8 (λ_=>A6 rfl) λ_=>?_
   refine C8 (λ_=>?_) λ_=>D5
   refine A4 (F:=id) (aI8 C _ _) λr=>?_
   match r with
   | some true=>exact A6 rfl
   | some false=>exact D5
   | none=>exact D5
def cB9 (n:Nat)(o:Nat->Nat->Bool)(lo k:Nat)(_:Nat)(c:Option Bool×Nat×Nat):PM (ForInStep (Option Bool×Nat×Nat)):=
 if c.2.1≥c.2.2 then pure (.done (none,c.2.1,c.2.2)) else aN3 n o (lo+k) (lo+(c.2.1+c.2.2) / 2) >>= λr=>match r with
 | some less=>if less=true then pure (.yield (none,c.2.1,(c.2.1+c.2.2) / 2)) else pure (.yield (none,(c.2.1+c.2.2) / 2+1,c.2.2))
 | none=>λ_=>none
def bP9 (n:Nat)(o:Nat->Nat->Bool)(lo:Nat)(k:Nat)(_:Option Bool×Unit):PM (ForInStep (Option Bool×Unit)):=
 N8 (List.range' 0 (k-0)) (none,0,k) (cB9 n o lo k) >>= λc=>match c with
 | (some _,_)=>λ_=>none
 | (none,l,_)=>bO2 (lo+k) (lo+l) >>= λ_=>pure (.yield (none,()))
def bV9 (n:Nat)(o:Nat->Nat->Bool)(lo m ok:Nat):PM Bool:=
 N8 (List.range' (max ok 1) (m-max ok 1)) (none,()) (bP9 n o lo) >>= λc=>match c with
 | (some _,_)=>λ_=>none
 | (none,_)=>pure true
theorem bS1 (C:Cmp M A s kd f n o)(lo m ok:Nat):Lf M A E s kd f id (binarySort' lo m ok) (bV9 n o lo m ok):=by
 rw[binarySort'_eq];unfold bV9;refine A4 (F:=id) (K7 rfl λk c=>?_) λc=>?_
 ·unfold bP9;refine A4 (F:=id) (K7 rfl λi c=>?_) λc=>?_
  ·obtain ⟨q,l,r⟩:=c;unfold cB9;refine C8 (λ_=>A6 rfl) λ_=>?_
   refine A4 (F:=id) (aI8 C _ _) λr=>?_
   cases r with
   | none=>exact D5
   | some less=>exact C8 (λ_=>A6 rfl) λ_=>A6 rfl
  ·obtain ⟨q,l,r⟩:=c;cases q with
   | some q=>exact D5
   | none=>exact A4 (F:=id) (bK0 _ _) λ_=>A6 rfl
 ·obtain ⟨q,u⟩:=c;cases q with
  | some q=>exact D5
  | none=>exact A6 rfl
def S9:Bool->Keyed->Array Keyed->Nat->Nat->Nat->StateT SortSt Sem (Option Nat):=sortPriv% PySem.Builtin.gallop
theorem aQ0 (left:Bool)(key:Keyed)(arr:Array Keyed)(base n hint:Nat):S9 left key arr base n hint=(do
 let beyond (i:Nat):StateT SortSt Sem (Option Bool):=do
  let x <- elem' arr (base+i)
  if left then lt' x key else return (<- lt' key x).map (!·)
 let mut lastofs:=0
 let mut ofs:=1
 let mut lo:=0
 let mut hi:=0
 let some right <- beyond hint | return none
 if right then
  let maxofs:=n-hint
  for _ in [0:n] do
   if ofs≥maxofs then break
   let some more <- beyond (hint+ofs) | return none
   if !more then break
   lastofs:=ofs
   ofs:=2*ofs+1
  lo:=hint+lastofs+1
  hi:=hint+min ofs maxofs
 else
  let maxofs:=hint+1
  for _ in [0:n] do
   if ofs≥maxofs then break
   let some found <- beyond (hint-ofs) | return none
   if found then break
   lastofs:=ofs
   ofs:=2*ofs+1
  lo:=hint+1-min ofs maxofs
  hi:=hint-lastofs
 for _ in [0:n] do
  if lo≥hi then break
  let m:=lo+(hi-lo) / 2
  let some more <- beyond m | return none
  if more then lo:=m+1 else hi:=m
 return some hi):=rfl
def bH3 (n:Nat)(o:Nat->Nat->Bool)(left:Bool)(key:Nat)(arr:Array Nat)(base i:Nat):PM (Option Bool):=
 pel arr (base+i) >>= λx=>if left=true then plt n o x key else plt n o key x >>= λr=>pure (r.map (!·))
theorem z4 (C:Cmp M A s kd f n o)(left:Bool)(key:Nat)(arr:Array Nat){arr':Array Keyed}(h:arr'=arr.map f)(base i:Nat):Lf M A E s kd f id (do
  let x <- elem' arr' (base+i)
  if left then lt' x (f key) else return (<- lt' (f key) x).map (!·)) (bH3 n o left key arr base i):=
 A4 (P8 h _) λx=>C8 (λ_=>aV4 C _ _) λ_=>A4 (F:=id) (aV4 C _ _) λr=>A6 rfl
def pg1 (n:Nat)(o:Nat->Nat->Bool)(left:Bool)(key:Nat)(arr:Array Nat)(base hint mx:Nat)(_:Nat)(c:Option (Option Nat)×Nat×Nat):PM (ForInStep (Option (Option Nat)×Nat×Nat)):=
 if c.2.2≥mx then pure (.done (none,c.2.1,c.2.2)) else bH3 n o left key arr base (hint+c.2.2) >>= λr=>match r with
 | some more=>if(!more)=true then pure (.done (none,c.2.1,c.2.2)) else pure (.yield (none,c.2.2,2*c.2.2+1))
 | none=>λ_=>none
def pg2 (n:Nat)(o:Nat->Nat->Bool)(left:Bool)(key:Nat)(arr:Array Nat)(base hint mx:Nat)(_:Nat)(c:Option (Option Nat)×Nat×Nat):PM (ForInStep (Option (Option Nat)×Nat×Nat)):=
 if c.2.2≥mx then pure (.done (none,c.2.1,c.2.2)) else bH3 n o left key arr base (hint-c.2.2) >>= λr=>match r with
 | some found=>if found=true then pure (.done (none,c.2.1,c.2.2)) else pure (.yield (none,c.2.2,2*c.2.2+1))
 | none=>λ_=>none
def pg3 (n:Nat)(o:Nat->Nat->Bool)(left:Bool)(key:Nat)(arr:Array Nat)(base:Nat)(_:Nat)(c:Option (Option Nat)×Nat×Nat):PM (ForInStep (Option (Option Nat)×Nat×Nat)):=
 if c.2.1≥c.2.2 then pure (.done (none,c.2.1,c.2.2)) else bH3 n o left key arr base (c.2.1+(c.2.2-c.2.1) / 2) >>= λr=>match r with
 | some more=>if more=true then pure (.yield (none,c.2.1+(c.2.2-c.2.1) / 2+1,c.2.2)) else pure (.yield (none,c.2.1,c.2.1+(c.2.2-c.2.1) / 2))
 | none=>λ_=>none
def pgE (n:Nat)(o:Nat->Nat->Bool)(left:Bool)(key:Nat)(arr:Array Nat)(base m lo hi:Nat):PM (Option Nat):=
 N8 (List.range' 0 (m-0)) (none,lo,hi) (pg3 n o left key arr base) >>= λc=>match c with
 | (some _,_)=>λ_=>none
 | (none,_,hi)=>pure (some hi)
def aZ2 (n:Nat)(o:Nat->Nat->Bool)(left:Bool)(key:Nat)(arr:Array Nat)(base m hint:Nat):PM (Option Nat):=
 bH3 n o left key arr base hint >>= λr=>match r with
 | some right=>if right=true then N8 (List.range' 0 (m-0)) (none,0,1) (pg1 n o left key arr base hint (m-hint)) >>= λc=>match c with
   | (some _,_)=>λ_=>none
   | (none,la,of)=>pgE n o left key arr base m (hint+la+1) (hint+min of (m-hint))
  else N8 (List.range' 0 (m-0)) (none,0,1) (pg2 n o left key arr base hint (hint+1)) >>= λc=>match c with
   | (some _,_)=>λ_=>none
   | (none,la,of)=>pgE n o left key arr base m (hint+1-min of (hint+1)) (hint-la)
 | none=>λ_=>none
theorem aJ0 (C:Cmp M A s kd f n o)(left:Bool)(key:Nat)(arr:Array Nat){arr':Array Keyed}(h:arr'=arr.map f)(base m hint:Nat):Lf M A E s kd f id (S9 left (f key) arr' base m hint) (aZ2 n o left key arr base m hint):=by
 rw[aQ0];unfold aZ2;refine A4 (F:=id) (z4 C left key arr h base _) λr=>?_
 cases r with
 | none=>exact D5
 | some right=>
  refine C8 (λ_=>?_) λ_=>?_
  ·refine A4 (F:=id) (K7 rfl λi c=>?_) λc=>?_
   ·obtain ⟨q,la,of⟩:=c;unfold pg1;refine C8 (λ_=>A6 rfl) λ_=>A4 (F:=id) (z4 C left key arr h base _) λr=>?_
    cases r with
    | none=>exact D5
    | some more=>exact C8 (λ_=>A6 rfl) λ_=>A6 rfl
   ·obtain ⟨q,la,of⟩:=c;cases q with
    | some q=>exact D5
    | none=>
     unfold pgE;refine A4 (F:=id) (K7 rfl λi c=>?_) λc=>?_
     ·obtain ⟨q,lo,hi⟩:=c;unfold pg3;refine C8 (λ_=>A6 rfl) λ_=>A4 (F:=id) (z4 C left key arr h base _) λr=>?_
      cases r with
      | none=>exact D5
      | some more=>exact C8 (λ_=>A6 rfl) λ_=>A6 rfl
     ·obtain ⟨q,lo,hi⟩:=c;cases q with
      | some q=>exact D5
      | none=>exact A6 rfl
  ·refine A4 (F:=id) (K7 rfl λi c=>?_) λc=>?_
   ·obtain ⟨q,la,of⟩:=c;unfold pg2;refine C8 (λ_=>A6 rfl) λ_=>A4 (F:=id) (z4 C left key arr h base _) λr=>?_
    cases r with
    | none=>exact D5
    | some more=>exact C8 (λ_=>A6 rfl) λ_=>A6 rfl
   ·obtain ⟨q,la,of⟩:=c;cases q with
    | some q=>exact D5
    | none=>
     unfold pgE;refine A4 (F:=id) (K7 rfl λi c=>?_) λc=>?_
     ·obtain ⟨q,lo,hi⟩:=c;unfold pg3;refine C8 (λ_=>A6 rfl) λ_=>A4 (F:=id) (z4 C left key arr h base _) λr=>?_
      cases r with
      | none=>exact D5
      | some more=>exact C8 (λ_=>A6 rfl) λ_=>A6 rfl
     ·obtain ⟨q,lo,hi⟩:=c;cases q with
      | some q=>exact D5
      | none=>exact A6 rfl
def y8:Array Keyed->Array Keyed->StateT SortSt Sem (Array Keyed):=sortPriv% PySem.Builtin.mergeLo
def L4:Nat->StateT SortSt Sem Unit:=sortPriv% PySem.Builtin.setMinGallop
theorem t8 (g:Nat):L4 g=modify λs=>SortSt.mk' (kindOf s) (arrOf s) (pendingOf s) g (failedOf s):=rfl
theorem aN5 (a b:Array Keyed):y8 a b=(do
 rule "list.sort.merge-lo"
 let total:=a.size+b.size
 let done (out:Array Keyed) (ia ib:Nat):=out++a.extract ia a.size++b.extract ib b.size
 let lastOfA (out:Array Keyed) (ia ib:Nat):=out++b.extract ib b.size++a.extract ia a.size
 let mut out:Array Keyed := #[<- elem' b 0]
 let mut ia:=0
 let mut ib:=1
 if ib==b.size then return done out ia ib
 if ia+1==a.size then return lastOfA out ia ib
 let mut minGallop:=gallopOf (<- get)
 for _ in [0:total] do
  let mut acount:=0
  let mut bcount:=0
  for _ in [0:total] do
   let some bWins <- lt' (<- elem' b ib) (<- elem' a ia) | return done out ia ib
   if bWins then
    out:=out.push (<- elem' b ib);ib:=ib+1;bcount:=bcount+1;acount:=0
    if ib==b.size then return done out ia ib
    if bcount≥minGallop then break
   else
    out:=out.push (<- elem' a ia);ia:=ia+1;acount:=acount+1;bcount:=0
    if ia+1==a.size then return lastOfA out ia ib
    if acount≥minGallop then break
  rule "list.sort.gallop"
  minGallop:=minGallop+1
  for _ in [0:total] do
   if minGallop>1 then minGallop:=minGallop-1
   L4 minGallop
   let some k <- S9 false (<- elem' b ib) a ia (a.size-ia) 0 | return done out ia ib
   acount:=k
   if k>0 then
    out:=out++a.extract ia (ia+k);ia:=ia+k
    if ia+1==a.size then return lastOfA out ia ib
    if ia==a.size then return done out ia ib
   out:=out.push (<- elem' b ib);ib:=ib+1
   if ib==b.size then return done out ia ib
   let some k <- S9 true (<- elem' a ia) b ib (b.size-ib) 0 | return done out ia ib
   bcount:=k
   if k>0 then
    out:=out++b.extract ib (ib+k);ib:=ib+k
    if ib==b.size then return done out ia ib
   out:=out.push (<- elem' a ia);ia:=ia+1
   if ia+1==a.size then return lastOfA out ia ib
   if acount<7&&bcount<7 then break
  minGallop:=minGallop+1
  L4 minGallop
 unsupported "internal:list.sort.merge-bound"):=rfl
def fD (a b out:Array Nat)(ia ib:Nat):Array Nat:=out++a.extract ia a.size++b.extract ib b.size
def fL (a b out:Array Nat)(ia ib:Nat):Array Nat:=out++b.extract ib b.size++a.extract ia a.size
theorem aB9 (a b out:Array Nat)(ia ib:Nat):out.map f++(a.map f).extract ia (a.map f).size++(b.map f).extract ib (b.map f).size=(fD a b out ia ib).map f:=by
 unfold fD
 simp[Array.map_append,Array.map_extract]
theorem aG8 (a b out:Array Nat)(ia ib:Nat):out.map f++(b.map f).extract ib (b.map f).size++(a.map f).extract ia (a.map f).size=(fL a b out ia ib).map f:=by
 unfold fL
 simp[Array.map_append,Array.map_extract]
abbrev S1 (τ:Type):=Option (Array τ)×Array τ×Nat×Nat×Nat×Nat
abbrev S2 (τ:Type):=Option (Array τ)×Array τ×Nat×Nat×Nat×Nat×Nat
abbrev S3 (τ:Type):=Option (Array τ)×Array τ×Nat×Nat×Nat
def F1 (f:Nat->Keyed)(c:S1 Nat):S1 Keyed:=(c.1.map (·.map f),c.2.1.map f,c.2.2)
def F2 (f:Nat->Keyed)(c:S2 Nat):S2 Keyed:=(c.1.map (·.map f),c.2.1.map f,c.2.2)
def F3 (f:Nat->Keyed)(c:S3 Nat):S3 Keyed:=(c.1.map (·.map f),c.2.1.map f,c.2.2)
def pm1 (n:Nat)(o:Nat->Nat->Bool)(a b:Array Nat)(mg:Nat)(_:Nat)(c:S1 Nat):PM (ForInStep (S1 Nat)):=match c with
 | (_,out,ia,ib,ac,bc)=>pel b ib >>= λy=>pel a ia >>= λx=>plt n o y x >>= λr=>match r with
  | some bw=>if bw=true then pel b ib >>= λy=>
     if(ib+1==b.size)=true then pure (.done (some (fD a b (out.push y) ia (ib+1)),out.push y,ia,ib+1,0,bc+1))
     else if bc+1≥mg then pure (.done (none,out.push y,ia,ib+1,0,bc+1)) else pure (.yield (none,out.push y,ia,ib+1,0,bc+1))
    else pel a ia >>= λx=>
     if(ia+1+1==a.size)=true then pure (.done (some (fL a b (out.push x) (ia+1) ib),out.push x,ia+1,ib,ac+1,0))
     else if ac+1≥mg then pure (.done (none,out.push x,ia+1,ib,ac+1,0)) else pure (.yield (none,out.push x,ia+1,ib,ac+1,0))
  | none=>λ_=>none
theorem bY3 (C:Cmp M A s kd f n o)(a b:Array Nat)(mg i:Nat)(c:S1 Nat):Lf M A E s kd f (stF (F1 f)) (do
   let y <- elem' (b.map f) (F1 f c).2.2.2.1
   let x <- elem' (a.map f) (F1 f c).2.2.1
   let r <- lt' y x
   match r with
   | some bw=>
     if bw=true then
      let y <- elem' (b.map f) (F1 f c).2.2.2.1
      (if((F1 f c).2.2.2.1+1==(b.map f).size)=true then pure (ForInStep.done (some ((F1 f c).2.1.push y++(a.map f).extract (F1 f c).2.2.1 (a.map f).size++(b.map f).extract ((F1 f c).2.2.2.1+1) (b.map f).size),(F1 f c).2.1.push y,(F1 f c).2.2.1,(F1 f c).2.2.2.1+1,0,(F1 f c).2.2.2.2.2+1)) else if(F1 f c).2.2.2.2.2+1≥mg then pure (ForInStep.done (none,(F1 f c).2.1.push y,(F1 f c).2.2.1,(F1 f c).2.2.2.1+1,0,(F1 f c).2.2.2.2.2+1)) else pure (ForInStep.yield (none,(F1 f c).2.1.push y,(F1 f c).2.2.1,(F1 f c).2.2.2.1+1,0,(F1 f c).2.2.2.2.2+1)))
     else
      let x <- elem' (a.map f) (F1 f c).2.2.1
      (if((F1 f c).2.2.1+1+1==(a.map f).size)=true then pure (ForInStep.done (some ((F1 f c).2.1.push x++(b.map f).extract (F1 f c).2.2.2.1 (b.map f).size++(a.map f).extract ((F1 f c).2.2.1+1) (a.map f).size),(F1 f c).2.1.push x,(F1 f c).2.2.1+1,(F1 f c).2.2.2.1,(F1 f c).2.2.2.2.1+1,0)) else if(F1 f c).2.2.2.2.1+1≥mg then pure (ForInStep.done (none,(F1 f c).2.1.push x,(F1 f c).2.2.1+1,(F1 f c).2.2.2.1,(F1 f c).2.2.2.2.1+1,0)) else pure (ForInStep.yield (none,(F1 f c).2.1.push x,(F1 f c).2.2.1+1,(F1 f c).2.2.2.1,(F1 f c).2.2.2.2.1+1,0)))
   | _=>pure (ForInStep.done (some ((F1 f c).2.1++(a.map f).extract (F1 f c).2.2.1 (a.map f).size++(b.map f).extract (F1 f c).2.2.2.1 (b.map f).size),(F1 f c).2.1,(F1 f c).2.2.1,(F1 f c).2.2.2.1,(F1 f c).2.2.2.2.1,(F1 f c).2.2.2.2.2))) (pm1 n o a b mg i c):=by
 obtain ⟨q,out,ia,ib,ac,bc⟩:=c;unfold pm1;refine A4 (P8 rfl _) λy=>A4 (P8 rfl _) λx=>A4 (F:=id) (aV4 C _ _) λr=>?_
 cases r with
 | none=>exact D5
 | some bw=>
  refine C8 (λ_=>A4 (P8 rfl _) λy=>?_) λ_=>A4 (P8 rfl _) λx=>?_
  ·show Lf M A E s kd f (stF (F1 f)) (if(ib+1==(b.map f).size)=true then pure (ForInStep.done (some ((out.map f).push (f y)++(a.map f).extract ia (a.map f).size++(b.map f).extract (ib+1) (b.map f).size),(out.map f).push (f y),ia,ib+1,0,bc+1)) else if bc+1≥mg then pure (ForInStep.done (none,(out.map f).push (f y),ia,ib+1,0,bc+1)) else pure (ForInStep.yield (none,(out.map f).push (f y),ia,ib+1,0,bc+1))) _
   rw[<- Array.map_push,aB9,Array.size_map];exact C8 (λ_=>A6 rfl) λ_=>C8 (λ_=>A6 rfl) λ_=>A6 rfl
  ·show Lf M A E s kd f (stF (F1 f)) (if(ia+1+1==(a.map f).size)=true then pure (ForInStep.done (some ((out.map f).push (f x)++(b.map f).extract ib (b.map f).size++(a.map f).extract (ia+1) (a.map f).size),(out.map f).push (f x),ia+1,ib,ac+1,0)) else if ac+1≥mg then pure (ForInStep.done (none,(out.map f).push (f x),ia+1,ib,ac+1,0)) else pure (ForInStep.yield (none,(out.map f).push (f x),ia+1,ib,ac+1,0))) _
   rw[<- Array.map_push,aG8,Array.size_map];exact C8 (λ_=>A6 rfl) λ_=>C8 (λ_=>A6 rfl) λ_=>A6 rfl
def pj2 (a b:Array Nat)(out:Array Nat)(ia ib mg ac bc:Nat):PM (ForInStep (S2 Nat)):=pel a ia >>= λx=>
 if(ia+1+1==a.size)=true then pure (.done (some (fL a b (out.push x) (ia+1) ib),out.push x,ia+1,ib,mg,ac,bc))
 else if(decide (ac<7)&&decide (bc<7))=true then pure (.done (none,out.push x,ia+1,ib,mg,ac,bc)) else pure (.yield (none,out.push x,ia+1,ib,mg,ac,bc))
theorem bR2 (a b out:Array Nat){out':Array Keyed}(ho:out'=out.map f)(ia ib mg ac bc:Nat):Lf M A E s kd f (stF (F2 f)) (do
   let x <- elem' (a.map f) ia
   (if(ia+1+1==(a.map f).size)=true then pure (ForInStep.done (some (out'.push x++(b.map f).extract ib (b.map f).size++(a.map f).extract (ia+1) (a.map f).size),out'.push x,ia+1,ib,mg,ac,bc)) else if(decide (ac<7)&&decide (bc<7))=true then pure (ForInStep.done (none,out'.push x,ia+1,ib,mg,ac,bc)) else pure (ForInStep.yield (none,out'.push x,ia+1,ib,mg,ac,bc)))) (pj2 a b out ia ib mg ac bc):=by
 subst ho;refine A4 (P8 rfl _) λx=>?_
 rw[<- Array.map_push,aG8,Array.size_map];exact C8 (λ_=>A6 rfl) λ_=>C8 (λ_=>A6 rfl) λ_=>A6 rfl
def pj1 (n:Nat)(o:Nat->Nat->Bool)(a b:Array Nat)(out:Array Nat)(ia ib mg ac bc:Nat):PM (ForInStep (S2 Nat)):=pel b ib >>= λy=>
 if(ib+1==b.size)=true then pure (.done (some (fD a b (out.push y) ia (ib+1)),out.push y,ia,ib+1,mg,ac,bc))
 else pel a ia >>= λx=>aZ2 n o true x b (ib+1) (b.size-(ib+1)) 0 >>= λr=>match r with
  | some k=>if k>0 then(if(ib+1+k==b.size)=true then pure (.done (some (fD a b (out.push y++b.extract (ib+1) (ib+1+k)) ia (ib+1+k)),out.push y++b.extract (ib+1) (ib+1+k),ia,ib+1+k,mg,ac,k)) else pj2 a b (out.push y++b.extract (ib+1) (ib+1+k)) ia (ib+1+k) mg ac k) else pj2 a b (out.push y) ia (ib+1) mg ac k
  | none=>λ_=>none
theorem P5 (x b:Array Nat)(i j:Nat):x.map f++(b.map f).extract i j=(x++b.extract i j).map f:=by simp[Array.map_append,Array.map_extract]
theorem bQ5 (C:Cmp M A s kd f n o)(a b out:Array Nat){out':Array Keyed}(ho:out'=out.map f)(ia ib mg ac bc:Nat):Lf M A E s kd f (stF (F2 f)) (do
   let y <- elem' (b.map f) ib
   if(ib+1==(b.map f).size)=true then
    pure (ForInStep.done (some (out'.push y++(a.map f).extract ia (a.map f).size++(b.map f).extract (ib+1) (b.map f).size),out'.push y,ia,ib+1,mg,ac,bc))
   else
    let x <- elem' (a.map f) ia
    let r <- S9 true x (b.map f) (ib+1) ((b.map f).size-(ib+1)) 0
    match r with
    | some k=>
     if k>0 then
      (if(ib+1+k==(b.map f).size)=true then pure (ForInStep.done (some (out'.push y++(b.map f).extract (ib+1) (ib+1+k)++(a.map f).extract ia (a.map f).size++(b.map f).extract (ib+1+k) (b.map f).size),out'.push y++(b.map f).extract (ib+1) (ib+1+k),ia,ib+1+k,mg,ac,k)) else do
       let x <- elem' (a.map f) ia
       (if(ia+1+1==(a.map f).size)=true then pure (ForInStep.done (some ((out'.push y++(b.map f).extract (ib+1) (ib+1+k)).push x++(b.map f).extract (ib+1+k) (b.map f).size++(a.map f).extract (ia+1) (a.map f).size),(out'.push y++(b.map f).extract (ib+1) (ib+1+k)).push x,ia+1,ib+1+k,mg,ac,k)) else if(decide (ac<7)&&decide (k<7))=true then pure (ForInStep.done (none,(out'.push y++(b.map f).extract (ib+1) (ib+1+k)).push x,ia+1,ib+1+k,mg,ac,k)) else pure (ForInStep.yield (none,(out'.push y++(b.map f).extract (ib+1) (ib+1+k)).push x,ia+1,ib+1+k,mg,ac,k))))
     else
      let x <- elem' (a.map f) ia
      (if(ia+1+1==(a.map f).size)=true then pure (ForInStep.done (some ((out'.push y).push x++(b.map f).extract (ib+1) (b.map f).size++(a.map f).extract (ia+1) (a.map f).size),(out'.push y).push x,ia+1,ib+1,mg,ac,k)) else if(decide (ac<7)&&decide (k<7))=true then pure (ForInStep.done (none,(out'.push y).push x,ia+1,ib+1,mg,ac,k)) else pure (ForInStep.yield (none,(out'.push y).push x,ia+1,ib+1,mg,ac,k)))
    | _=>pure (ForInStep.done (some (out'.push y++(a.map f).extract ia (a.map f).size++(b.map f).extract (ib+1) (b.map f).size),out'.push y,ia,ib+1,mg,ac,bc))) (pj1 n o a b out ia ib mg ac bc):=by
 subst ho;refine A4 (P8 rfl _) λy=>?_
 rw[<- Array.map_push,aB9];simp only[Array.size_map];refine C8 (λ_=>A6 rfl) λ_=>A4 (P8 rfl _) λx=>A4 (F:=id) (aJ0 C true x b rfl _ _ _) λr=>?_
 cases r with
 | none=>exact D5
 | some k=>
  refine C8 (λ_=>?_) λ_=>?_
  ·refine C8 (λ_=>A6 ?_) λ_=>?_
   ·have e:=aB9 (f:=f) a b (out.push y++b.extract (ib+1) (ib+1+k)) ia (ib+1+k)
    rw[<- P5]at e;simp only[Array.size_map]at e;show ForInStep.done _=ForInStep.done _;rw[e,P5];rfl
   ·have h:=bR2 (M:=M) (A:=A) (E:=E) (s:=s) (kd:=kd) a b (out.push y++b.extract (ib+1) (ib+1+k)) (P5 (f:=f) _ _ _ _) ia (ib+1+k) mg ac k
    simp only[Array.size_map]at h;exact h
  ·have h:=bR2 (M:=M) (A:=A) (E:=E) (s:=s) (kd:=kd) a b (out.push y) (f:=f) rfl ia (ib+1) mg ac k
   simp only[Array.size_map]at h;exact h
def bI2 (g:Nat):PM Unit:=λx=>some ((),{x with g:=g})
theorem aU8 (g:Nat):Lf M A E s kd f id (L4 g) (bI2 g):=by
 rw[t8];exact y6 (g:=λx=>{x with g:=g}) λx=>rfl
def pj0 (n:Nat)(o:Nat->Nat->Bool)(a b:Array Nat)(out:Array Nat)(ia ib mg bc:Nat):PM (ForInStep (S2 Nat)):=bI2 mg >>= λ_=>pel b ib >>= λy=>aZ2 n o false y a ia (a.size-ia) 0 >>= λr=>match r with
  | some k=>if k>0 then(if(ia+k+1==a.size)=true then pure (.done (some (fL a b (out++a.extract ia (ia+k)) (ia+k) ib),out++a.extract ia (ia+k),ia+k,ib,mg,k,bc))
    else if(ia+k==a.size)=true then pure (.done (some (fD a b (out++a.extract ia (ia+k)) (ia+k) ib),out++a.extract ia (ia+k),ia+k,ib,mg,k,bc))
    else pj1 n o a b (out++a.extract ia (ia+k)) (ia+k) ib mg k bc) else pj1 n o a b out ia ib mg k bc
  | none=>λ_=>none
def pm2 (n:Nat)(o:Nat->Nat->Bool)(a b:Array Nat)(_:Nat)(c:S2 Nat):PM (ForInStep (S2 Nat)):=match c with
 | (_,out,ia,ib,mg,_,bc)=>if mg>1 then pj0 n o a b out ia ib (mg-1) bc else pj0 n o a b out ia ib mg bc
def pm3 (n:Nat)(o:Nat->Nat->Bool)(a b:Array Nat)(_:Nat)(c:S3 Nat):PM (ForInStep (S3 Nat)):=match c with
 | (_,out,ia,ib,mg)=>N8 (List.range' 0 (a.size+b.size-0)) (none,out,ia,ib,0,0) (pm1 n o a b mg) >>= λc=>match c with
  | (some r,out,ia,ib,_,_)=>pure (.done (some r,out,ia,ib,mg))
  | (none,out,ia,ib,ac,bc)=>bE2 >>= λ_=>N8 (List.range' 0 (a.size+b.size-0)) (none,out,ia,ib,mg+1,ac,bc) (pm2 n o a b) >>= λc=>match c with
   | (some r,out,ia,ib,mg,_,_)=>pure (.done (some r,out,ia,ib,mg))
   | (none,out,ia,ib,mg,_,_)=>bI2 (mg+1) >>= λ_=>pure (.yield (none,out,ia,ib,mg+1))
def bX3 (n:Nat)(o:Nat->Nat->Bool)(a b:Array Nat):PM (Array Nat):=bE2 >>= λ_=>pel b 0 >>= λy=>
 if(1==b.size)=true then pure (fD a b #[y] 0 1) else if(0+1==a.size)=true then pure (fL a b #[y] 0 1) else(λx=>some (x,x):PM PSt) >>= λx=>
  N8 (List.range' 0 (a.size+b.size-0)) (none,#[y],0,1,x.g) (pm3 n o a b) >>= λc=>match c with
  | (some r,_)=>pure r
  | (none,_)=>λ_=>none
theorem bW3 {prog:Program}{w:World}(C:Cmp (model prog w) A s kd f n o)(a b:Array Nat):Lf (model prog w) A E s kd f (·.map f) (y8 (a.map f) (b.map f)) (bX3 n o a b):=by
 rw[aN5];unfold bX3;refine A4 (F:=id) aF8 λ_=>?_
 dsimp only
 refine A4 (P8 rfl _) λy=>?_
 simp only[Array.size_map];refine C8 (λ_=>A6 ?_) λ_=>C8 (λ_=>A6 ?_) λ_=>A4 Y1 λx=>A4 (F:=F3 f) (K7 (show(none,#[f y],0,1,x.g)=F3 f (none,#[y],0,1,x.g) by simp[F3]) λi c=>?_) λc=>?_
 ·have e:=aB9 (f:=f) a b #[y] 0 1
  simp only[Array.size_map]at e;rw[<- e];simp
 ·have e:=aG8 (f:=f) a b #[y] 0 1
  simp only[Array.size_map]at e;rw[<- e];simp
 ·obtain ⟨q,out,ia,ib,mg⟩:=c;unfold pm3;refine A4 (F:=F1 f) (K7 rfl λi c=>?_) λc=>?_
  ·have h:=bY3 (E:=E) C a b mg i c
   simp only[Array.size_map]at h;exact h
  ·obtain ⟨q,out,ia,ib,ac,bc⟩:=c;cases q with
   | some r=>exact A6 rfl
   | none=>
    refine A4 (F:=id) aF8 λ_=>?_
    refine A4 (F:=F2 f) (K7 rfl λi c=>?_) λc=>?_
    ·obtain ⟨q,out,ia,ib,mg,ac,bc⟩:=c;unfold pm2;refine C8 (λ_=>?_) λ_=>?_
     all_goals
      refine A4 (F:=id) (aU8 _) λ_=>A4 (P8 rfl _) λy=>A4 (F:=id) (aJ0 C false y a rfl _ _ _) λr=>?_
      cases r with
      | none=>exact D5
      | some k=>
       refine C8 (λ_=>C8 (λ_=>A6 ?_) λ_=>C8 (λ_=>A6 ?_) λ_=>?_) λ_=>?_
       ·have e:=aG8 (f:=f) a b (out++a.extract ia (ia+k)) (ia+k) ib
        rw[<- P5]at e;simp only[Array.size_map]at e;show ForInStep.done (some (out.map f++(a.map f).extract ia (ia+k)++(b.map f).extract ib b.size++(a.map f).extract (ia+k) a.size),out.map f++(a.map f).extract ia (ia+k),_)=ForInStep.done _;rw[e,P5];rfl
       ·have e:=aB9 (f:=f) a b (out++a.extract ia (ia+k)) (ia+k) ib
        rw[<- P5]at e;simp only[Array.size_map]at e;show ForInStep.done (some (out.map f++(a.map f).extract ia (ia+k)++(a.map f).extract (ia+k) a.size++(b.map f).extract ib b.size),out.map f++(a.map f).extract ia (ia+k),_)=ForInStep.done _;rw[e,P5];rfl
       ·have h:=bQ5 (E:=E) C a b (out++a.extract ia (ia+k)) (P5 (f:=f) _ _ _ _) (ia+k) ib
        simp only[Array.size_map]at h;exact h _ _ _
       ·have h:=bQ5 (E:=E) C a b out (f:=f) rfl ia ib
        simp only[Array.size_map]at h;exact h _ _ _
    ·obtain ⟨q,out,ia,ib,mg,ac,bc⟩:=c;cases q with
     | some r=>exact A6 rfl
     | none=>exact A4 (F:=id) (aU8 _) λ_=>A6 rfl
 ·obtain ⟨q,c⟩:=c;cases q with
  | some r=>exact A6 rfl
  | none=>exact D5
def bA3:Array Keyed->Array Keyed->StateT SortSt Sem (Array Keyed):=sortPriv% PySem.Builtin.mergeHi
theorem aK3 (i:Nat):mergeAt' i=(do
 let s <- get
 let (some (sa,na,power),some (sb,nb,_)):=((pendingOf s)[i]?,(pendingOf s)[i+1]?) | unsupported "internal:list.sort.pending"
 set (setPending s (((pendingOf s).setIfInBounds i (sa,na+nb,power)).eraseIdxIfInBounds (i+1)))
 let some k <- S9 false (<- elem' (arrOf s) sb) (arrOf s) sa na 0 | return false
 let (sa,na):=(sa+k,na-k)
 if na==0 then return true
 let some nb <- S9 true (<- elem' (arrOf s) (sa+na-1)) (arrOf s) sb nb (nb-1) | return false
 if nb==0 then return true
 let x:=(arrOf s).extract sa sb
 let y:=(arrOf s).extract sb (sb+nb)
 let merged <- if na<=nb then y8 x y else bA3 x y
 modify λs=>setArr s (merged.toList.zipIdx.foldl (λa (p,j)=>a.setIfInBounds (sa+j) p) (arrOf s))
 return (failedOf (<- get)).isNone):=rfl
theorem bT2 {y:SortSt}{x':PSt}(h:y=W9 kd f x'):Lf M A E s kd f id (set y:StateT SortSt Sem PUnit) (λ_=>some (⟨⟩,x')):=λx b x'' e Q q=>by
 cases e
 subst h;unfold wpS;rw[StateT.run_set];exact wpAny_pure ⟨rfl,q⟩
theorem aS0 (sa:Nat):∀(l:List (Nat×Nat)) (a:Array Nat),(l.map λx=>(f x.1,x.2)).foldl (λa (p,j)=>a.setIfInBounds (sa+j) p) (a.map f)=(l.foldl (λa (p,j)=>a.setIfInBounds (sa+j) p) a).map f
 | [],a=>rfl
 | x::l,a=>by
  rw[Ac2,List.foldl_cons,List.foldl_cons];show List.foldl _ ((a.map f).setIfInBounds (sa+x.2) (f x.1)) _=_;rw[<- Array.map_setIfInBounds,aS0 sa l]
def bZ7 (sa:Nat)(m:Array Nat):PM PUnit:=λx=>some (⟨⟩,{x with a:=m.toList.zipIdx.foldl (λa (p,j)=>a.setIfInBounds (sa+j) p) x.a})
theorem bL6 (l:List Nat):∀k,(l.map f).zipIdx k=(l.zipIdx k).map λx=>(f x.1,x.2):=by
 induction l with
 | nil=>intro k;rfl
 | cons x l ih=>intro k;rw[Ac2,List.zipIdx_cons,List.zipIdx_cons,Ac2,ih]
theorem bU8 (sa:Nat)(m:Array Nat):Lf M A E s kd f id (modify λs=>setArr s ((m.map f).toList.zipIdx.foldl (λa (p,j)=>a.setIfInBounds (sa+j) p) (arrOf s)):StateT SortSt Sem PUnit) (bZ7 sa m):=
 y6 λx=>by
  show SortSt.mk' kd _ x.p x.g none=SortSt.mk' kd _ x.p x.g none
  rw[Array.toList_map,bL6];show SortSt.mk' kd (List.foldl _ (x.a.map f) _) x.p x.g none=_;rw[aS0]
def bU2 (n:Nat)(o:Nat->Nat->Bool)(i:Nat):PM Bool:=(λx=>some (x,x):PM PSt) >>= λx=>match x.p[i]?,x.p[i+1]? with
 | some (sa,na,pw),some (sb,nb,_)=>(λ_=>some (⟨⟩,{x with p:=(x.p.setIfInBounds i (sa,na+nb,pw)).eraseIdxIfInBounds (i+1)}):PM PUnit) >>= λ_=>pel x.a sb >>= λy=>aZ2 n o false y x.a sa na 0 >>= λr=>match r with
  | some k=>if(na-k==0)=true then pure true else pel x.a (sa+k+(na-k)-1) >>= λz=>aZ2 n o true z x.a sb nb (nb-1) >>= λr=>match r with
   | some nb'=>if(nb'==0)=true then pure true else if na-k<=nb' then bX3 n o (x.a.extract (sa+k) sb) (x.a.extract sb (sb+nb')) >>= λm=>bZ7 (sa+k) m >>= λ_=>(λx=>some (x,x):PM PSt) >>= λ_=>pure true else λ_=>none
   | none=>λ_=>none
  | none=>λ_=>none
 | _,_=>λ_=>none
theorem bR9 {prog:Program}{w:World}(C:Cmp (model prog w) A s kd f n o)(i:Nat):Lf (model prog w) A E s kd f id (mergeAt' i) (bU2 n o i):=by
 rw[aK3];unfold bU2;refine A4 Y1 λx=>?_
 show Lf (model prog w) A E s kd f id (match (x.p[i]?,x.p[i+1]?) with | (some (sa,na,power),some (sb,nb,_))=>_ | _=>_) _
 cases x.p[i]? with
 | none=>exact D5
 | some u=>
  obtain ⟨sa,na,pw⟩:=u;cases x.p[i+1]? with
  | none=>exact D5
  | some v=>
   obtain ⟨sb,nb,pw'⟩:=v;refine A4 (F:=id) (bT2 rfl) λ_=>A4 (P8 rfl _) λy=>A4 (F:=id) (aJ0 C false y x.a rfl _ _ _) λr=>?_
   cases r with
   | none=>exact D5
   | some k=>
    refine C8 (λ_=>A6 rfl) λ_=>A4 (P8 rfl _) λz=>A4 (F:=id) (aJ0 C true z x.a rfl _ _ _) λr=>?_
    cases r with
    | none=>exact D5
    | some nb'=>
     refine C8 (λ_=>A6 rfl) λ_=>C8 (λ_=>A4 (F:=λa:Array Nat=>a.map f) ?_ λm=>A4 (F:=id) (bU8 _ m) λ_=>A4 Y1 λ_=>A6 rfl) λ_=>D5
     have h:=bW3 (E:=E) C (x.a.extract (sa+k) sb) (x.a.extract sb (sb+nb'))
     rw[Array.map_extract,Array.map_extract]at h;exact h
def bT6 (lo k:Nat):PM (ForInStep (Option Unit×Nat)):=(λx=>some (⟨⟩,{x with p:=x.p.push (lo,k,0)}):PM PUnit) >>= λ_=>pure (.yield (none,lo+k))
def cC4 (_:Nat)(_:Option Unit×Unit):PM (ForInStep (Option Unit×Unit)):=(λx=>some (x,x):PM PSt) >>= λx=>match (if x.p.size>1 then x.p[x.p.size-2]? else none) with
 | some _=>λ_=>none
 | none=>pure (.done (none,()))
def bV6 (size lo k:Nat):PM (ForInStep (Option Unit×Nat)):=(λx=>some (x,x):PM PSt) >>= λx=>match x.p.back? with
 | some (s1,n1,_)=>N8 (List.range' 0 (size-0)) (none,()) cC4 >>= λc=>match c with
  | (some _,_)=>λ_=>none
  | (none,_)=>(λx=>some (⟨⟩,{x with p:=x.p.modify (x.p.size-1) λ(st,len,_)=>(st,len,power' size (2*s1+n1) (2*s1+n1+n1+k) size)}):PM PUnit) >>= λ_=>bT6 lo k
 | none=>bT6 lo k
def bP3 (n:Nat)(o:Nat->Nat->Bool)(size mr:Nat)(_:Nat)(c:Option Unit×Nat):PM (ForInStep (Option Unit×Nat)):=
 if c.2≥size then pure (.done (none,c.2)) else aR5 n o c.2 (size-c.2) >>= λr=>match r with
 | some k=>if k<mr then bE2 >>= λ_=>bV9 n o c.2 (min (size-c.2) mr) k >>= λb=>if(!b)=true then λ_=>none else bV6 size c.2 (min (size-c.2) mr) else bV6 size c.2 k
 | none=>λ_=>none
def bZ6 (n:Nat)(o:Nat->Nat->Bool)(_:Nat)(_:Option Unit×Unit):PM (ForInStep (Option Unit×Unit)):=(λx=>some (x,x):PM PSt) >>= λx=>if x.p.size<=1 then pure (.done (none,())) else
 bU2 n o (if(if x.p.size-2>0 then x.p[x.p.size-2-1]?.map (·.2.1) else none).any (· < (x.p[x.p.size-2+1]?.elim 0 (·.2.1))) then x.p.size-2-1 else x.p.size-2) >>= λb=>if(!b)=true then λ_=>none else pure (.yield (none,()))
def u8 (n:Nat)(o:Nat->Nat->Bool):PM Unit:=(λx=>some (x,x):PM PSt) >>= λx=>
 N8 (List.range' 0 (x.a.size-0)) (none,0) (bP3 n o x.a.size (minRun' x.a.size x.a.size 0)) >>= λc=>match c with
 | (some _,_)=>λ_=>none
 | (none,_)=>N8 (List.range' 0 (x.a.size-0)) (none,()) (bZ6 n o) >>= λc=>match c with
  | (some _,_)=>λ_=>none
  | (none,_)=>pure ()
theorem bF1 (lo k:Nat):Lf M A E s kd f (stF id) (do
  modify λs=>setPending s ((pendingOf s).push (lo,k,0))
  pure (ForInStep.yield ((none:Option Unit),lo+k))) (bT6 lo k):=A4 (F:=id) (y6 λx=>rfl) λ_=>A6 rfl
theorem bN4 {prog:Program}{w:World}(C:Cmp (model prog w) A s kd f n o):Lf (model prog w) A E s kd f id sortRuns' (u8 n o):=by
 rw[sortRuns'_eq];unfold u8;refine A4 Y1 λx=>?_
 have hz:(arrOf (W9 kd f x)).size=x.a.size:=Array.size_map ..
 rw[hz];refine A4 (F:=id) (K7 rfl λi c=>?_) λc=>?_
 ·obtain ⟨q,lo⟩:=c;unfold bP3;refine C8 (λ_=>A6 rfl) λ_=>A4 (F:=id) (aZ8 C _ _) λr=>?_
  cases r with
  | none=>exact D5
  | some k=>
   refine C8 (λ_=>A4 (F:=id) aF8 λ_=>A4 (F:=id) (bS1 C _ _ _) λb=>C8 (λ_=>D5) λ_=>?_) λ_=>?_
   all_goals
    unfold bV6;refine A4 Y1 λy=>?_
    generalize hb:(pendingOf (W9 kd f y)).back? = bk;have hb':y.p.back? = bk:=hb;rw[hb'];cases bk with
    | none=>exact bF1 _ _
    | some u=>
     obtain ⟨s1,n1,z⟩:=u;refine A4 (F:=id) (K7 rfl λi c=>?_) λc=>?_
     ·unfold cC4;refine A4 Y1 λy=>?_
      generalize hb:(if(pendingOf (W9 kd f y)).size>1 then(pendingOf (W9 kd f y))[(pendingOf (W9 kd f y)).size-2]? else none)=bk;have hb':(if y.p.size>1 then y.p[y.p.size-2]? else none)=bk:=hb;rw[hb'];show Lf (model prog w) A E s kd f (stF id) (match (if(pendingOf (W9 kd f y)).size>1 then(pendingOf (W9 kd f y))[(pendingOf (W9 kd f y)).size-2]? else none) with | some (_,_,older)=>_ | _=>pure (ForInStep.done (none,()))) _
      rw[hb];cases bk with
      | none=>exact A6 rfl
      | some v=>exact D5
     ·obtain ⟨q,u⟩:=c;cases q with
      | some q=>exact D5
      | none=>exact A4 (F:=id) (y6 λx=>rfl) λ_=>bF1 _ _
 ·obtain ⟨q,lo⟩:=c;cases q with
  | some q=>exact D5
  | none=>
   refine A4 (F:=id) (K7 rfl λi c=>?_) λc=>?_
   ·unfold bZ6;refine A4 Y1 λy=>C8 (λ_=>A6 rfl) λ_=>A4 (F:=id) (bR9 C _) λb=>C8 (λ_=>D5) λ_=>A6 rfl
   ·obtain ⟨q,u⟩:=c;cases q with
    | some q=>exact D5
    | none=>exact A6 rfl
end
end SRT
namespace LV
open PySem PySem.Spec PyProof.Rows L2 PySem.W Att SRT
section
variable {P:Program}{w:World}{A:Around}{s:Shared}{E:Value->Shared->Prop}
def pk (vs:List Value)(i:Nat):Keyed:=(vs.getD i .none,vs.getD i .none)
theorem bT1 (vs:List Value):(List.range vs.length).toArray.map (pk vs)=vs.toArray.zip vs.toArray:=by
 refine Array.ext (by simp) λi h1 h2=>?_
 have hi:i<vs.length:=by simpa using h2
 simp[pk,List.getD,hi]
theorem w5 {a:Addr}{vs:List Value}{n:Nat}{kd:SortKind}{o:Nat->Nat->Bool}{x':PSt}{P':PySem.Fin->Shared->Prop}(ho:s.heap.get? a=some (seqObj "list" vs.toArray n))(h2:2<=vs.length)(hz:vs.length<=1000)
  (hK:∀(s':Shared) (Q:SortKind->Shared->Prop) (E:Value->Shared->Prop),(∀b ob,b≠a->s.heap.get? b=some ob->s'.heap.get? b=some ob)->Q kd s'->wpAny (model P w) A (keyKind' vs.toArray) Q E s')
  (C:∀s':Shared,(∀b ob,b≠a->s.heap.get? b=some ob->s'.heap.get? b=some ob)->Cmp (model P w) A s' kd (pk vs) vs.length o)
  (hp:u8 vs.length o ⟨(List.range vs.length).toArray,#[],7⟩=some ((),x')) (hx:x'.a.size=vs.length)
  (h:P' (.done (.ret .none)) {s with heap:=sortedHeap s.heap a vs (x'.a.map λi=>vs.getD i .none)}):wpAny (model P w) A (Builtin.«list.sort» ⟨[.ref a],[]⟩) P' E s:=by
 rw[list_sort_plain];have ha:a<s.heap.objs.size:=Ab2 ho;refine wpAny_bind (listItems_at ho rfl ?_);refine wpAny_bind (listUpdate_at ho rfl ?_);obtain ⟨e1,ho1⟩:∃e1,(s.heap.update a (Obj.mapSeq λ_ => #[])).get? a=some (seqObj "list" #[] e1):=⟨_,get?_update_seq ho (λ_ => #[])⟩
 refine wpAny_bind (seqEpoch_at ho1 rfl ?_);refine wpAny_bind (wpAny_newTuple ?_);refine wpAny_bind (wpAny_newList ?_);refine wpAny_holding ?_;have ho6:(((s.heap.update a (Obj.mapSeq λ_ => #[])).push (seqObj "tuple" vs.toArray 0)).push (seqObj "list" #[] 0)).get? a=some (seqObj "list" #[] e1):=by
  rw[Heap.get?_push_ne _ _ _ (by rw[size_push',Heap.size_update];exact Ab7 (Nat.lt_succ_of_lt ha)),Heap.get?_push_ne _ _ _ (by rw[Heap.size_update];exact Ab7 ha)]
  exact ho1
 show wpAny (model P w) A _ P' E {s with heap:=((s.heap.update a (Obj.mapSeq λ_ => #[])).push (seqObj "tuple" vs.toArray 0)).push (seqObj "list" #[] 0)}
 have kp:∀b ob,b≠a->s.heap.get? b=some ob->(((s.heap.update a (Obj.mapSeq λ_ => #[])).push (seqObj "tuple" vs.toArray 0)).push (seqObj "list" #[] 0)).get? b=some ob:=λb ob hb q=>by
  have hlt:=Ab2 q
  rw[Heap.get?_push_ne _ _ _ (by rw[size_push',Heap.size_update];exact Ab7 (Nat.lt_succ_of_lt hlt)),Heap.get?_push_ne _ _ _ (by rw[Heap.size_update];exact Ab7 hlt),Heap.get?_update_ne _ _ _ _ hb]
  exact q
 dsimp only
 have hsz:vs.toArray.size=vs.length:=by simp
 rw[if_neg (by omega),if_neg (by omega)]
 refine wpAny_bind (hK _ _ _ kp ?_);have est:SortSt.mk' kd (vs.toArray.zip vs.toArray) #[] 7 none=W9 kd (pk vs) ⟨(List.range vs.length).toArray,#[],7⟩:=by
  show _=SortSt.mk' kd ((List.range vs.length).toArray.map (pk vs)) #[] 7 none
  rw[bT1]
 rw[est];refine wpAny_bind (wpAny_mono (bN4 (E:=E) (C _ kp) _ () x' hp (λ_ st'=>st'=W9 kd (pk vs) x') rfl) ?_ λ_ _ e=>e)
 rintro ⟨⟨⟩,st'⟩ s' ⟨rfl,rfl⟩;dsimp only;refine wpAny_bind (seqEpoch_at ho6 rfl ?_);have eo:(arrOf (W9 kd (pk vs) x')).map (·.2)=x'.a.map λi=>vs.getD i .none:=by
  show(x'.a.map (pk vs)).map (·.2)=_
  rw[Array.map_map];rfl
 refine wpAny_bind (listUpdate_at ho6 rfl ?_ (hsz2:=by rw[eo,Array.size_map,hx,sizeLine_eq];omega))
 have hf:failedOf (W9 kd (pk vs) x')=none:=rfl
 rw[hf];simp only[bne_self_eq_false,Bool.false_eq_true,if_false];rw[eo];exact wpAny_pure h
theorem p6 {l:Addr}{vs:List Value}{kd:SortKind}{o:Nat->Nat->Bool}{x':PSt}{Q:Value->Shared->Prop}(hl:s.heap.IsList l vs.toArray)(h2:2<=vs.length)(hz:vs.length<=1000)
  (hK:∀(A:Around) (s':Shared) (Q:SortKind->Shared->Prop) (E:Value->Shared->Prop),(∀b ob,s.heap.get? b=some ob->s'.heap.get? b=some ob)->Q kd s'->wpAny (model P w) A (keyKind' vs.toArray) Q E s')
  (C:∀(A:Around) (s':Shared),(∀b ob,s.heap.get? b=some ob->s'.heap.get? b=some ob)->Cmp (model P w) A s' kd (pk vs) vs.length o)
  (hp:u8 vs.length o ⟨(List.range vs.length).toArray,#[],7⟩=some ((),x')) (hx:x'.a.size=vs.length)
  (h:Q (.ref (s.heap.objs.size+1)) {s with heap:=sortedAll s.heap vs (x'.a.map λi=>vs.getD i .none)}):wpAny (model P w) A (call (.builtin "sorted") [.ref l]) Q E s:=by
 refine Calls.call_function_entry kind_sorted plain_sorted entry_sorted (args_sorted1 _) ?_;unfold Builtin.«sorted»;refine wpAny_bind (m:=checkCount "sorted" 1 1 _) (wpAny_pure ?_);refine wpAny_bind (collect_list hl ?_ (by rw[sizeLine_eq];omega))
 refine wpAny_bind (wpAny_newList ?_ (by rw[sizeLine_eq];omega))
 have hsz:((s.heap.push (seqObj "list" #[] 0)).update s.heap.objs.size (Obj.mapSeq (· ++ vs.toArray))).objs.size=s.heap.objs.size+1:=by
  rw[Heap.size_update,size_push']
 have hoL:(((s.heap.push (seqObj "list" #[] 0)).update s.heap.objs.size (Obj.mapSeq (· ++ vs.toArray))).push (seqObj "list" vs.toArray 0)).get? (s.heap.objs.size+1)=some (seqObj "list" vs.toArray 0):=by
  rw[<- hsz];exact Ac1 _ rfl
 have kp:∀b ob,s.heap.get? b=some ob->b≠s.heap.objs.size+1/\(((s.heap.push (seqObj "list" #[] 0)).update s.heap.objs.size (Obj.mapSeq (· ++ vs.toArray))).push (seqObj "list" vs.toArray 0)).get? b=some ob:=λb ob q=>by
  have hlt:=Ab2 q
  refine⟨Ab7 (Nat.lt_succ_of_lt hlt),?_⟩;rw[Heap.get?_push_ne _ _ _ (by rw[hsz];exact Ab7 (Nat.lt_succ_of_lt hlt)),Heap.get?_update_ne _ _ _ _ (Ab7 hlt),Heap.get?_push_ne _ _ _ (Ab7 hlt)]
  exact q
 show wpAny _ _ _ _ _ {s with heap:=((s.heap.push (seqObj "list" #[] 0)).update s.heap.objs.size (Obj.mapSeq (· ++ vs.toArray))).push (seqObj "list" vs.toArray 0)}
 rw[hsz];refine wpAny_bind (wpAny_holding (wpAny_call_entry slot_list_sort ⟨_,hoL,rfl⟩ entry_list_sort (w5 hoL h2 hz (λs' Q E k q=>hK _ s' Q E (λb ob e=>k b ob (kp b ob e).1 (kp b ob e).2) q) (λs' k=>C _ s' λb ob e=>k b ob (kp b ob e).1 (kp b ob e).2) hp hx ⟨_,rfl,?_⟩) (args_list_sort _)))
 exact wpAny_pure ⟨_,rfl,h⟩
end
def sLt (x y:Str):Bool:=decide (x.cps.toList<y.cps.toList)
def pLt (x y:Str×Str):Bool:=if(x.1==y.1)=true then(if(x.2==y.2)=true then false else sLt x.2 y.2) else sLt x.1 y.1
def oP (zs:List (Str×Str))(i j:Nat):Bool:=pLt (zs.getD i (⟨#[]⟩,⟨#[]⟩)) (zs.getD j (⟨#[]⟩,⟨#[]⟩))
def oS (zs:List Str)(i j:Nat):Bool:=sLt (zs.getD i ⟨#[]⟩) (zs.getD j ⟨#[]⟩)
def Knw (n:Nat)(o:Nat->Nat->Bool)(q:List Nat):Prop:=(n<2/\q=List.range n)\/(2<=n/\n<=1000/\q.length=n/\(∀i∈q,i<n)/\(u8 n o ⟨(List.range n).toArray,#[],7⟩).map (λr=>r.2.a.toList)=some q)
theorem Knw.get {n:Nat}{o:Nat->Nat->Bool}{q:List Nat}(h:(u8 n o ⟨(List.range n).toArray,#[],7⟩).map (λr=>r.2.a.toList)=some q):∃x',u8 n o ⟨(List.range n).toArray,#[],7⟩=some ((),x')/\x'.a.toList=q:=by
 cases e:u8 n o ⟨(List.range n).toArray,#[],7⟩ with
 | none=>rw[e]at h;cases h
 | some r=>
  rw[e]at h;exact⟨r.2,rfl,Ab3 h⟩
section
variable {P:Program}{w:World}{A:Around}{s:Shared}{Q:Bool->Shared->Prop}
theorem aO9 {x1 x2 y1 y2:Str}{t1 t2 u1 u2:Tok}(h:Q (pLt (x1,x2) (y1,y2)) s):KatLex P w A true false Q [(.str x1 t1,.str y1 u1),(.str x2 t2,.str y2 u2)] 0 s:=by
 refine kat_cons ?_;refine SeqAt.EqAt.str_str x1 t1 y1 u1 P w _ _ ?_;unfold pLt at h;dsimp only at h;cases e:(x1==y1) with
 | true=>
  rw[e,if_pos rfl]at h;refine kat_yes (kat_cons (SeqAt.EqAt.str_str x2 t2 y2 u2 P w _ _ ?_));cases e2:(x2==y2) with
  | true=>
   rw[e2,if_pos rfl]at h;exact kat_yes (kat_nil h)
  | false=>
   rw[e2,if_neg (by simp)]at h
   refine kat_no ?_;exact kat_one _ _ (lt_str h)
 | false=>
  rw[e,if_neg (by simp)]at h
  refine kat_no ?_;exact oneLt_str h
end
def PairsV (K:PySem.W.Frag)(H:Hp):List V->List (Str×Str)->Prop
 | [],[]=>True
 | v::vs,z::zs=>(∃a,v=.ref a/\SqT K H a [.str z.1,.str z.2])/\PairsV K H vs zs
 | _,_=>False
theorem PairsV.length {K:PySem.W.Frag}{H:Hp}:∀{vs:List V} {ts:List (Str×Str)},PairsV K H vs ts->vs.length=ts.length
 | [],[],_=>rfl
 | _::_,_::_,r=>by simp[PairsV.length r.2]
 | [],_::_,r=>r.elim
 | _::_,[],r=>r.elim
def PairsAt (h:Heap):List Value->List (Str×Str)->Prop
 | [],[]=>True
 | v::vs,z::zs=>(∃a t u,v=.ref a/\IsTup h a #[.str z.1 t,.str z.2 u])/\PairsAt h vs zs
 | _,_=>False
theorem PairsAt.get {h:Heap}:∀{vs:List Value} {ts:List (Str×Str)} {i:Nat},PairsAt h vs ts->i<ts.length->∃a t u,vs.getD i .none=.ref a/\IsTup h a #[.str (ts.getD i (⟨#[]⟩,⟨#[]⟩)).1 t,.str (ts.getD i (⟨#[]⟩,⟨#[]⟩)).2 u]
 | v::vs,t::ts,0,⟨⟨a,t',u,e,h1⟩,_⟩,_=>⟨a,t',u,e,h1⟩
 | v::vs,t::ts,i+1,⟨_,r⟩,hi=>PairsAt.get (i:=i) r (by simpa using hi)
 | [],[],_,_,hi=>by simp at hi
 | [],_::_,_,r,_=>r.elim
 | _::_,[],_,r,_=>r.elim
theorem PairsAt.keep {h h':Heap}(k:∀b ob,h.get? b=some ob->h'.get? b=some ob):∀{vs:List Value} {ts:List (Str×Str)},PairsAt h vs ts->PairsAt h' vs ts
 | [],[],_=>trivial
 | v::vs,t::ts,⟨⟨a,t',u,e,o,h1,h2⟩,r⟩=>⟨⟨a,t',u,e,o,k _ _ h1,h2⟩,r.keep k⟩
 | [],_::_,r=>r.elim
 | _::_,[],r=>r.elim
theorem PairsAt.kat {h:Heap}:∀{vs:List Value} {ts:List (Str×Str)},PairsAt h vs ts->∃fs,KatTups h vs fs/\fs.length=vs.length/\∀f∈fs,∃i t,f=Value.str i t
 | [],[],_=>⟨[],.nil,rfl,by simp⟩
 | v::vs,t::ts,⟨⟨a,t',u,e,o,ho,hc,n,hd⟩,r⟩=>by
  obtain ⟨fs,k1,k2,k3⟩:=r.kat;subst e;refine⟨.str t.1 t'::fs,.cons ho hc hd (by simp) k1,by simp[k2],λf hf=>?_⟩
  rcases Aa1.mp hf with rfl | hf
  ·exact⟨_,_,rfl⟩
  ·exact k3 f hf
 | [],_::_,r=>r.elim
 | _::_,[],r=>r.elim
section
variable {X:Cx}{pins:List (Addr×Obj)}{σ:L2.St}{H:Hp}{s:Shared}
theorem aK0 (I:Inv X pins σ H s):∀{vs:List V} {ts:List (Str×Str)} {us:List Value},PairsV X.K H vs ts->Vals vs us->PairsAt s.heap us ts
 | [],[],_,_,r=>by cases r;exact trivial
 | v::vs,t::ts,_,⟨⟨a,e,sq⟩,h⟩,r=>by
  subst e;cases r with
  | cons r1 r2=>
   cases r1
   obtain ⟨its,rv,p,_⟩:=I.tuple sq;cases rv with
   | cons q1 rv=>
    obtain ⟨t1,rfl⟩:=q1;cases rv with
    | cons q2 rv=>
     obtain ⟨t2,rfl⟩:=q2;cases rv;exact⟨⟨a,t1,t2,rfl,p⟩,aK0 I h r2⟩
 | [],_::_,_,h,_=>h.elim
 | _::_,[],_,h,_=>h.elim
end
section
variable {X:Cx}
def bH6 (K:PySem.W.Frag):List V->Hp->VK->Prop:=λxs H Q=>∃(p:Addr) (ys:List V) (zs:List (Str×Str)) (q:List Nat),xs=[.ref p]/\SqL K H p ys/\PairsV K H ys zs/\Knw zs.length (oP zs) q /\
  ∀a,H a=none->Q (.ref a) (upd H a (.lst (q.map λi=>ys.getD i .non)))
theorem aR1 (K:PySem.W.Frag)(h:X.K=K:=by rfl):X5 X (.builtin "sorted") (bH6 K):=by
 subst h;intro pins s σ H xs us Q I r ⟨p,ys,zs,qq,e,hq,ht,hk,q⟩;subst e;obtain ⟨u,rfl,rx⟩:=u5 r;cases rx;obtain ⟨its,rv,pl,hz⟩:=I.list hq;have hlen:=rv.length;have htl:=ht.length;rcases hk with ⟨h2,rfl⟩ | ⟨h2,h1000,hql,hqi,hp⟩
 ·refine o6 pl.isList (by omega) ?_
  obtain ⟨e,he⟩:=sortedAll_at s.heap its its.toArray;have fin:=q (s.heap.objs.size+1) (I.hok.fresh (Nat.le_succ _));have el:((List.range zs.length).map λi=>ys.getD i .non)=ys:=by
   refine List.ext_getElem (by simp[htl]) λi h1 h2=>?_
   simp[List.getD,h2]
  rw[el]at fin;exact⟨.ref _,_,I.laid (t':=s.toks) (λb o e=>sortedAll_old e) (Nat.le_succ _) (show ObjOk X.prog X.w _ _ _ (.lst ys) from⟨hz,its,e,rv,he⟩),rfl,fin⟩
 ·have pa:=aK0 I ht rv
  obtain ⟨x',hp',ex⟩:=Knw.get hp;have ez:zs.length=its.length:=by omega
  rw[ez]at hp';have hxs:x'.a.size=its.length:=by rw[<- Array.length_toList,ex,hql,ez]
  refine p6 (kd:=tuples' true) pl.isList (by omega) (by omega) (λA s' Q E k q=>?_) (λA s' k i j hi hj Q E q=>?_) hp' hxs ?_
  ·obtain ⟨fs,k1,k2,k3⟩:=(pa.keep k).kat;have hkk:=kat_kind (M:=model X.prog X.w) (A:=A) (E:=E) (Q:=Q) (T:=.type "str") k1 (by omega) (λv hv=>by
    obtain ⟨i,t,rfl⟩:=k3 v hv;exact λA Q E s _ q=>wpAny_of_eq (show typeOf (Value.str i t)=pure (.type "str") from rfl) q) (by decide)
   rw[show(Value.type "str" != Value.type "tuple")=true by decide]at hkk
   exact hkk q
  ·obtain ⟨a1,t1,u1,e1,o1,g1,c1,n1,d1⟩:=(pa.keep k).get (i:=i) (by omega)
   obtain ⟨a2,t2,u2,e2,o2,g2,c2,n2,d2⟩:=(pa.keep k).get (i:=j) (by omega)
   unfold pk;dsimp only;rw[e1,e2];exact kat_lt g1 d1 g2 d2 (aO9 q)
  ·have eo:(x'.a.map λi=>its.getD i .none)=(qq.map λi=>its.getD i .none).toArray:=by
    rw[<- ex];exact Array.toList_inj.mp (by simp)
   rw[eo];obtain ⟨e,he⟩:=sortedAll_at s.heap its (qq.map λi=>its.getD i .none).toArray
   have fin:=q (s.heap.objs.size+1) (I.hok.fresh (Nat.le_succ _))
   have rv':=r9 rv (q:=qq) λi hi=>by have:=hqi i hi;omega
   exact⟨.ref _,_,I.laid (t':=s.toks) (λb o e=>sortedAll_old e) (Nat.le_succ _) (show ObjOk X.prog X.w _ _ _ (.lst (qq.map λi=>ys.getD i .non)) from⟨by rw[Aa3,hql,sizeLine_eq];omega,_,e,rv',he⟩),rfl,fin⟩
end
section
variable {X:Cx}
def bE3 (K:PySem.W.Frag):List V->Hp->VK->Prop:=λxs H Q=>∃(p:Addr) (zs:List Str) (q:List Nat),xs=[.ref p]/\SqL K H p (zs.map V.str)/\Knw zs.length (oS zs) q /\
  ∀a,H a=none->Q (.ref a) (upd H a (.lst (q.map λi=>(zs.map V.str).getD i .non)))
theorem aT6:∀{zs:List Str} {us:List Value},Vals (zs.map V.str) us->(∀v∈us,∃i t,v=Value.str i t)/\∀i,i<zs.length->∃t,us.getD i .none=.str (zs.getD i ⟨#[]⟩) t
 | [],_,r=>by cases r;exact⟨λv hv=>by simp at hv,λi hi=>by simp at hi⟩
 | z::zs,_,r=>by
  cases r with
  | cons r1 r2=>
   obtain ⟨t,rfl⟩:=r1;obtain ⟨h1,h2⟩:=aT6 r2;refine⟨λv hv=>?_,λi hi=>?_⟩
   ·rcases Aa1.mp hv with rfl | hv
    ·exact⟨_,_,rfl⟩
    ·exact h1 v hv
   ·cases i with
    | zero=>exact⟨t,rfl⟩
    | succ i=>exact h2 i (by simpa using hi)
theorem aQ8 (K:PySem.W.Frag)(h:X.K=K:=by rfl):X5 X (.builtin "sorted") (bE3 K):=by
 subst h;intro pins s σ H xs us Q I r ⟨p,zs,qq,e,hq,hk,q⟩;subst e;obtain ⟨u,rfl,rx⟩:=u5 r;cases rx;obtain ⟨its,rv,pl,hz⟩:=I.list hq;have hlen:=rv.length;rw[Aa3]at hlen;rcases hk with ⟨h2,rfl⟩ | ⟨h2,h1000,hql,hqi,hp⟩
 ·refine o6 pl.isList (by omega) ?_
  obtain ⟨e,he⟩:=sortedAll_at s.heap its its.toArray;have fin:=q (s.heap.objs.size+1) (I.hok.fresh (Nat.le_succ _));have el:((List.range zs.length).map λi=>(zs.map V.str).getD i .non)=zs.map V.str:=by
   refine List.ext_getElem (by simp) λi h1 h2=>?_
   have h3:i<zs.length:=by simpa using h1
   simp[List.getD,h3]
  rw[el]at fin;exact⟨.ref _,_,I.laid (t':=s.toks) (λb o e=>sortedAll_old e) (Nat.le_succ _) (show ObjOk X.prog X.w _ _ _ (.lst (zs.map V.str)) from⟨hz,its,e,rv,he⟩),rfl,fin⟩
 ·obtain ⟨s1,s2⟩:=aT6 rv;obtain ⟨x',hp',ex⟩:=Knw.get hp;rw[hlen]at hp';have hxs:x'.a.size=its.length:=by rw[<- Array.length_toList,ex,hql,hlen]
  refine p6 (kd:=oneType') pl.isList (by omega) (by omega) (λA s' Q E k q=>?_) (λA s' k i j hi hj Q E q=>?_) hp' hxs ?_
  ·exact kas_kind (M:=model X.prog X.w) (T:=.type "str") (by omega) (λv hv=>by
    obtain ⟨i,t,rfl⟩:=s1 v hv;exact λA Q E s _ q=>wpAny_of_eq (show typeOf (Value.str i t)=pure (.type "str") from rfl) q) (by decide) (by decide) q
  ·obtain ⟨t1,e1⟩:=s2 i (by omega)
   obtain ⟨t2,e2⟩:=s2 j (by omega)
   unfold pk;dsimp only;rw[e1,e2,keyLt'_oneType];exact oneLt_str q
  ·have eo:(x'.a.map λi=>its.getD i .none)=(qq.map λi=>its.getD i .none).toArray:=by
    rw[<- ex];exact Array.toList_inj.mp (by simp)
   rw[eo];obtain ⟨e,he⟩:=sortedAll_at s.heap its (qq.map λi=>its.getD i .none).toArray
   have fin:=q (s.heap.objs.size+1) (I.hok.fresh (Nat.le_succ _))
   have rv':=r9 rv (q:=qq) λi hi=>by rw[Aa3];have:=hqi i hi;omega
   exact⟨.ref _,_,I.laid (t':=s.toks) (λb o e=>sortedAll_old e) (Nat.le_succ _) (show ObjOk X.prog X.w _ _ _ (.lst (qq.map λi=>(zs.map V.str).getD i .non)) from⟨by rw[Aa3,hql,sizeLine_eq];omega,_,e,rv',he⟩),rfl,fin⟩
end
section
variable {K:PySem.W.Frag}{ρ:List Sl}
def pD (z:Str×Str):PyData:=.tuple [.str z.1,.str z.2]
theorem aS2 {H:Hp}:∀{zs:List (Str×Str)} {vs:List V},Reps K H vs (zs.map pD)->PairsV K H vs zs
 | [],_,r=>by cases r;exact trivial
 | z::zs,_,r=>by
  cases r with
  | cons a b=>
   refine⟨?_,aS2 b⟩;cases a with
   | tup s r=>
    cases r with
    | cons r1 r2=>
     cases r1
     cases r2 with
     | cons r1 r2=>
      cases r1;cases r2
      exact⟨_,rfl,s⟩
theorem aB5 {H:Hp}{vs:List V}{ds:List PyData}(r:Reps K H vs ds):∀{q:List Nat},(∀i∈q,i<ds.length)->Reps K H (q.map λi=>vs.getD i .non) (q.map λi=>ds.getD i .none)
 | [],_=>.nil
 | i::q,h=>by
  have hi:=h i (by simp)
  obtain ⟨v,h1,h2⟩:=r.get' (i:=i) (d:=ds.getD i .none) (by rw[Aa2 hi];simp[List.getD,hi])
  have e:vs.getD i .non=v:=by simp[List.getD,h1]
  rw[Ac2,Ac2,e];exact .cons h2 (aB5 r λj hj=>h j (by simp[hj]))
theorem aI3 {n:Nat}{o:Nat->Nat->Bool}{q:List Nat}(h:Knw n o q):∀i∈q,i<n:=by
 rcases h with ⟨_,rfl⟩ | ⟨_,_,_,h,_⟩
 ·intro i hi;exact Ab4.mp hi
 ·exact h
theorem bL3 {zs:List (Str×Str)}{q:List Nat}(h:∀i∈q,i<zs.length):(q.map λi=>(zs.map pD).getD i .none)=(q.map λi=>zs.getD i (⟨#[]⟩,⟨#[]⟩)).map pD:=by
 rw[Ad3];refine List.map_congr_left λi hi=>?_
 have:=h i hi
 simp[List.getD,this]
theorem bN3 (zs:List (Str×Str)):W8 (zs.map pD)=true:=j9 (λ_=>rfl) zs
theorem bG8 {t:TA}{zs ws:List (Str×Str)}{q:List Nat}(ha:A K false t ρ [.list (zs.map pD)])(hk:Knw zs.length (oP zs) q)(hw:(q.map λi=>zs.getD i (⟨#[]⟩,⟨#[]⟩))=ws):EF K (tCB (bH6 K) t) ρ (ws.map pD):=by
 subst hw;refine bP1 ha (bN3 _) λH vs Q r q'=>?_
 cases r with
 | cons a b=>
  cases b
  cases a with
  | @lst p xs _ s r=>
   refine⟨p,xs,zs,q,rfl,s,aS2 r,hk,λa h1=>q' a _ h1 ?_⟩
   have h:=aB5 r (q:=q) λi hi=>by rw[Aa3];exact aI3 hk i hi
   rw[bL3 (aI3 hk)]at h;exact h
theorem aB1 {H:Hp}:∀{zs:List Str} {vs:List V},Reps K H vs (zs.map PyData.str)->vs=zs.map V.str
 | [],_,r=>by cases r;rfl
 | z::zs,_,r=>by
  cases r with
  | cons a b=>cases a;rw[aB1 b];rfl
theorem bF9 {zs:List Str}{q:List Nat}(h:∀i∈q,i<zs.length):(q.map λi=>(zs.map PyData.str).getD i .none)=(q.map λi=>zs.getD i ⟨#[]⟩).map PyData.str:=by
 rw[Ad3];refine List.map_congr_left λi hi=>?_
 have:=h i hi
 simp[List.getD,this]
theorem bB7 {t:TA}{zs ws:List Str}{q:List Nat}(ha:A K false t ρ [.list (zs.map PyData.str)])(hk:Knw zs.length (oS zs) q)(hw:(q.map λi=>zs.getD i ⟨#[]⟩)=ws):EF K (tCB (bE3 K) t) ρ (ws.map PyData.str):=by
 subst hw;refine bP1 ha (j9 (λ_=>rfl) _) λH vs Q r q'=>?_
 cases r with
 | cons a b=>
  cases b
  cases a with
  | @lst p xs _ s r=>
   have e:=aB1 r
   subst e;refine⟨p,zs,q,rfl,s,hk,λa h1=>q' a _ h1 ?_⟩
   have h:=aB5 r (q:=q) λi hi=>by rw[Aa3];exact aI3 hk i hi
   rw[bF9 (aI3 hk)]at h;exact h
end
end LV
namespace LV
open PySem PySem.Spec PyProof.Rows L2
section
variable {K:PySem.W.Frag}{B:Hp}{ρ ρ':List Sl}{m:Bool}{t ta tb:TE}{d d':PyData}{ds es:List PyData}
theorem bU4 {C:Addr}{v:Value}(h:PySem.W.subIn K (.ref C) v=some true):L2.subIn K C v=true:=by
 have h:PySem.W.mroIn K C v=some true:=h
 unfold PySem.W.mroIn at h;obtain ⟨cd,a,b⟩:=Option.bind_eq_some_iff.mp h;split at b
 ·cases b
 ·unfold PySem.W.clsIn at a;unfold L2.subIn
  revert a
  split
  ·rename_i e;intro z;cases z;rw[e];simpa using b
  ·intro z;cases z
end
end LV
set_option maxHeartbeats 1000000
namespace K47
open PySem L2 LV PyProof.Rows
theorem t5:C2 ["m", "most"] ["m", "most"] (A9 M2):=⟨rfl,rfl,rfl,by decide +kernel,rfl,by decide +kernel,by decide +kernel⟩
theorem sc_many_pairs:C2 ["m", "c", "k"] ["m"] (A9 S4):=⟨rfl,rfl,rfl,by decide +kernel,rfl,by decide +kernel,by decide +kernel⟩
theorem sc__law_products:C2 ["_law_m", "_law_trees", "_law_k"] ["_law_m"] (A9 M1):=⟨rfl,rfl,rfl,by decide +kernel,rfl,by decide +kernel,by decide +kernel⟩
theorem EI.to {K:PySem.W.Frag}{m:Bool}{t:TE}{ρ:List Sl}{i j:Int}(h:LV.E K m t ρ (.int i))(e:i=j):LV.E K m t ρ (.int j):=e▸h
theorem EF.to {K:PySem.W.Frag}{t:TE}{ρ:List Sl}{ds es:List PyData}(h:EF K t ρ ds)(e:ds=es):EF K t ρ es:=e▸h
theorem aX9 {K:PySem.W.Frag}{B:Hp}{ρ:List Sl}{i:Nat}{x:Int}{EX:Hp->Prop}{R:AE}(hx:ρ[i]? = some (.val (.int x)))(bx : -1000000<x/\x<1000000)(hE:∀H',Same B H'->EX H'):WB K B (bB4 EX (G5 (tFs (cC7 (K8 i) bY0)) i5)) ρ R:=λS D σ H o I s=>by
 have ex:=A1 (K:=K) (m:=false) (i:=i) hx
 show(K8 i) σ H (λv H1=>∃x':Int,v=.int x'/\(-1000000<x'/\x'<1000000)/\∀out:Str,([V.str out]:List V).length<=1000/\EX H1)
 refine ex S B σ H o I _ λv H1 s1 r=>?_
 cases r
 exact⟨x,rfl,bx,λout=>⟨show 1<=1000 by decide,hE H1 (L2.Same.tr I.base s1)⟩⟩
def ctn:Nat->Nat
 | 0=>1
 | k+1=>ctn k*(4*k+2) / (k+2)
theorem bQ2:∀k,k<103->ctn k<2^210:=by decide +kernel
def mpn (m:Nat):Int:=(ctn m:Int)*(ctn (m+2):Int)-(ctn (m+1):Int)*(ctn (m+1):Int)
theorem Y4 {k:Nat}(h:k<103){j:Int}(hj:j.natAbs<2^210):CMulB (ctn k:Int) j:=by
 have e:(2:Nat)^210<=2^512:=Nat.pow_le_pow_right (by decide) (by decide)
 exact⟨Ab6 (by rw[Int.natAbs_natCast];exact bQ2 k h) e,Ab6 hj e⟩
theorem y0 {k:Nat}(h:k<103):((ctn k:Int)).natAbs<2^210:=by rw[Int.natAbs_natCast];exact bQ2 k h
theorem aE0 {j:Int}(h : -1000000<j/\j<1000000):j.natAbs<2^210:=Ab6 (show j.natAbs<2^20 by omega) (Nat.pow_le_pow_right (by decide) (by decide))
theorem aO4 (k:Nat):(ctn k:Int)*(4*(k:Int)+2) / ((k:Int)+2)=(ctn (k+1):Int):=by
 show _=((ctn k*(4*k+2) / (k+2):Nat):Int)
 rw[Int.natCast_ediv]
 simp
def cD (n:Nat):List PyData:=(List.range n).map λk=>PyData.int (ctn k:Int)
theorem aV6 {n k:Nat}(h:k<n):atI (cD n) (k:Int)=some (.int (ctn k:Int)):=W0 k rfl (by unfold cD;rw[Aa8,List.getElem?_range h];rfl)
theorem aU1 (n:Nat):cD n++[.int (ctn n:Int)]=cD (n+1):=by unfold cD;rw[List.range_succ,Ac7];rfl
theorem bC8 (n:Nat):(cD n).length=n:=by unfold cD;simp
def bX9 (ds:List PyData)(d:PyData):Prop:=∃m q:Int,0<=m/\m<=q/\q<1000/\ds=[.int m,.int q]/\d=.none
def bW1 (CT:Addr)(ds:List PyData)(C:Addr)(fs:List (Str×PyData)):Prop:=C=CT/\∃m q:Int,(m<0\/m>q)/\0<=q/\q<1000/\ds=[.int m,.int q]/\fs=[]
def aL4 (ds:List PyData)(d:PyData):Prop:=∃m:Nat,m<=100/\ds=[.int (m:Int)]/\d=.int (mpn m)
def aF7 (CT:Addr)(q:Int)(ds:List PyData)(C:Addr)(fs:List (Str×PyData)):Prop:=C=CT/\∃m:Int,(m<0\/m>q)/\ds=[.int m]/\fs=[]
section
variable {P:Program}{w:World}{K:PySem.W.Frag}{mg:Str->Option Value}{base:Heap}{a:Ad}
theorem bQ0 (T:Tx K mg a):D6 P w K mg base (CXd P w) 1 a.N1 a.M3 ["m", "most"] (spF K bX9 (bW1 a.B5)):=by
 refine T.M9.okD t5 (cB4 (by rintro ds d ⟨_,_,_,_,_,e,_⟩;rw[e];rfl) (by rintro ds C fs ⟨_,_,_,_,_,_,e,_⟩;rw[e];rfl)) (λcdv A outer s H vs Q E hr h=>?_)
 obtain ⟨ds,S,hS,r,z⟩:=h;refine⟨_,(A8 (O6 (PW.pt (aE2 (C9 aL0 (pv 0) A7 (D9 _)) (z3 (C9 aS5 (pv 0) (pv 1) (D9 _))))) (A8 (bI7 rfl T.aE7 T.Y7 rfl (A0 (bK1 (bX5 (bT3 (pv 1) bS2))) A2) bW2)) E7)),?_⟩;rcases z with ⟨d,⟨m,q',h1,h2,h3,rfl,rfl⟩,q⟩ | ⟨C,fs,⟨rfl,m,q',h1,h2,h3,rfl,rfl⟩,q⟩
 ·refine bC4 hS r (W.wb ?_) q;refine c0 (aP6 (H9 (y3 (g:=λi j=>decide (i<j)) (A1 (i:=0) rfl) B1)) λ_=>H9 (y3 (g:=λi j=>decide (i>j)) (A1 (i:=0) rfl) (A1 (i:=1) rfl))) (λh=>?_) (λ_=>G9 rfl)
  rw[show decide (m<0)=false from decide_eq_false (by omega),show decide (m>q')=false from decide_eq_false (by omega)]at h
  cases h
 ·refine aI0 hS r ?_;refine cA0 (aP6 (H9 (y3 (g:=λi j=>decide (i<j)) (A1 (i:=0) rfl) B1)) λ_=>H9 (y3 (g:=λi j=>decide (i>j)) (A1 (i:=0) rfl) (A1 (i:=1) rfl))) (λ_=>aX9 (i:=1) rfl (by omega) λH' s'=>q H' none [] s' rfl .nil) (λh=>?_)
  simp only[Bool.or_eq_false_iff,decide_eq_false_iff_not]at h;omega
theorem bA1 (T:Tx K mg a):D6 P w K mg base (CXd P w) 2 a.W3 a.U2 ["m"] (spF K aL4 (aF7 a.B5 100)):=by
 have G_refuse_beyond:D6 P w K mg base (CXd P w) 1 _ _ _ _:=bQ0 T
 obtain ⟨tm,gm⟩:=T.P2;refine T.N3.okD sc_many_pairs (cB4 (by rintro ds d ⟨_,_,e,_⟩;rw[e];rfl) (by rintro ds C fs ⟨_,_,_,e,_⟩;rw[e];rfl)) (λcdv A outer s H vs Q E hr h=>?_)
 obtain ⟨ds,S,hS,r,z⟩:=h;refine⟨_,(A5 (N2 (B8 G_refuse_beyond (hr.mono (by decide)) rfl T.W4 T.M9.kp T.W5 .nil bO5 (A0 (pv 0) (A0 (F7 (v:=.int 100) rfl gm ⟨tm,rfl⟩) A2))))
   (A5 (D4 (i:=1) sc_many_pairs.nd rfl (Or.inl rfl) (M7 (A0 A7 A2)))
   (A5 (Q6 PassesOwn.leaving rfl (K9 rfl T.N4 (A0 (B4 F8 (pv 0) A7) A2)) (E2 (i:=2) sc_many_pairs.nd rfl (Or.inl rfl)) (A8 (N2 (X2 Ab0 PySem.F.slot_list_append PySem.F.type_list_append N6 (pv 1) (A0 (B4 aH0 (B4 E9 (G0 (ixK K) (pv 1) (pv 2) (λ_ _=>rfl)) (B4 F8 (B4 E9 A7 (pv 2)) A7)) (B4 F8 (pv 2) A7)) A2)))))
   (A8 (C6 (B4 aH2 (B4 E9 (G0 (ixK K) (pv 1) (pv 0) (λ_ _=>rfl)) (G0 (ixK K) (pv 1) (B4 F8 (pv 0) A7) (λ_ _=>rfl))) (B4 E9 (G0 (ixK K) (pv 1) (B4 F8 (pv 0) A7) (λ_ _=>rfl)) (G0 (ixK K) (pv 1) (B4 F8 (pv 0) A7) (λ_ _=>rfl))))))))),?_⟩
 rcases z with ⟨d,⟨m,h1,rfl,rfl⟩,q⟩ | ⟨C,fs,⟨rfl,m,h1,rfl,rfl⟩,q⟩
 ·refine bC4 hS r ?_ q;refine aG7 (o7 (ds:=[.int (m:Int),.int 100]) (A3 (A1 (i:=0) rfl) (A3 B1 B0)) (.inl ⟨.none,⟨(m:Int),100,by omega,by omega,by omega,rfl,rfl⟩,W.wb ?_⟩))
  refine B6 (F6 (ds:=cD 1) (M6 (A3 B1 B0) (show(1:Nat)<=PySem.sizeLine by decide)) ?_ (show 1<3 by decide))
  refine B6 (a4 (j6 (j:=((m+2:Nat):Int)) (A3 (EI.to (Q1 (A1 (i:=0) rfl) B1) (by omega)) B0) (by omega) (by omega)) (λj ρ=>∃x2,x2.nb=true/\ρ=[.val (.int (m:Int)),.own (cD (j+1)),x2]) ⟨.no,rfl,rfl⟩ ?_ ?_)
  ·rintro j d _ hj ⟨x2,b2,rfl⟩;obtain ⟨rfl,hj2⟩:=c8 hj;rw[Ac3]at hj2;refine⟨_,E4,?_⟩;refine R1 rfl (EI.to (e_i (e_i (h8 (ds:=cD (j+1)) (X8 (i:=1) rfl) (A1 (i:=2) rfl) rfl (aV6 (Nat.lt_succ_self j))) (Q1 (e_i B1 (A1 (i:=2) rfl) (aI6 (by decide) (by omega))) B1) (Y4 (by omega) (aE0 (by omega)))) (Q1 (A1 (i:=2) rfl) B1) ⟨by omega,by omega⟩) (aO4 j)) (by rw[bC8];unfold PySem.sizeLine;omega) ⟨.val (.int (j:Int)),rfl,?_⟩
   rw[<- aU1 (j+1)];rfl
  ·rintro _ ⟨x2,b2,rfl⟩;have el:(L5 0 (((m+2:Nat):Int)).toNat).length=m+2:=by unfold L5;simp;omega
   rw[el];have at1:∀{mm:Bool} (k:Nat) {t:TE},k<=m+2->LV.E K false t [.val (.int (m:Int)),.own (cD (m+2+1)),x2] (.int (k:Int))->LV.E K mm (tOp (rIx K) (K8 1) t) [.val (.int (m:Int)),.own (cD (m+2+1)),x2] (.int (ctn k:Int)):=λ{mm} k {t} hk ht=>LV.E.bor (LV.E.imm (m:=false) (h8 (d:=.list (cD (m+2+1))) (ds:=cD (m+2+1)) (X8 (i:=1) (ds:=cD (m+2+1)) rfl) ht rfl (aV6 (by omega))))
   have m1:(m:Int)+1=((m+1:Nat):Int):=by omega
   have m2:(m:Int)+2=((m+2:Nat):Int):=by omega
   exact K5 (Q1 (e_i (at1 m (by omega) (A1 (i:=0) rfl)) (at1 (m+2) (by omega) (EI.to (Q1 (A1 (i:=0) rfl) B1) m2)) (Y4 (by omega) (y0 (by omega)))) (e_i (at1 (m+1) (by omega) (EI.to (Q1 (A1 (i:=0) rfl) B1) m1)) (at1 (m+1) (by omega) (EI.to (Q1 (A1 (i:=0) rfl) B1) m1)) (Y4 (by omega) (y0 (by omega))))) rfl
 ·refine aI0 hS r ?_;exact aG7 (o7 (ds:=[.int m,.int 100]) (A3 (A1 (i:=0) rfl) (A3 B1 B0)) (.inr ⟨_,[],⟨rfl,m,100,h1,by omega,by omega,rfl,rfl⟩,λH' dd vs s' e1 e2=>q H' dd vs s' e1 e2⟩))
theorem cD8 (T:Tx K mg a):D6 P w K mg base CX0 1 a.L8 a.N0 ["_law_m"] (spV K aL4):=by
 refine T.W7.ok sc__law_products (aA5 (by rintro ds d ⟨_,_,e,_⟩;rw[e];rfl)) (λcdv A outer s H vs Q E hr h=>?_)
 obtain ⟨ds,S,d,hS,r,⟨m,h1,rfl,rfl⟩,q⟩:=h;refine⟨_,(A5 (D4 (i:=1) sc__law_products.nd rfl (Or.inl rfl) (M7 (A0 A7 A2)))
   (A5 (Q6 PassesOwn.never rfl (K9 rfl T.N4 (A0 (B4 F8 (pv 0) A7) A2)) (E2 (i:=2) sc__law_products.nd rfl (Or.inl rfl)) (A8 (N2 (X2 Ab0 PySem.F.slot_list_append PySem.F.type_list_append N6 (pv 1) (A0 (B4 aH0 (B4 E9 (G0 (ixK K) (pv 1) (pv 2) (λ_ _=>rfl)) (B4 F8 (B4 E9 A7 (pv 2)) A7)) (B4 F8 (pv 2) A7)) A2)))))
   (A8 (C6 (B4 aH2 (B4 E9 (G0 (ixK K) (pv 1) (pv 0) (λ_ _=>rfl)) (G0 (ixK K) (pv 1) (B4 F8 (pv 0) A7) (λ_ _=>rfl))) (B4 E9 (G0 (ixK K) (pv 1) (B4 F8 (pv 0) A7) (λ_ _=>rfl)) (G0 (ixK K) (pv 1) (B4 F8 (pv 0) A7) (λ_ _=>rfl)))))))),Q9 hS r ?_ q⟩
 refine B6 (F6 (ds:=cD 1) (M6 (A3 B1 B0) (show(1:Nat)<=PySem.sizeLine by decide)) ?_ (show 1<3 by decide))
 refine B6 (a4 (j6 (j:=((m+2:Nat):Int)) (A3 (EI.to (Q1 (A1 (i:=0) rfl) B1) (by omega)) B0) (by omega) (by omega)) (λj ρ=>∃x2,x2.nb=true/\ρ=[.val (.int (m:Int)),.own (cD (j+1)),x2]) ⟨.no,rfl,rfl⟩ ?_ ?_)
 ·rintro j d _ hj ⟨x2,b2,rfl⟩;obtain ⟨rfl,hj2⟩:=c8 hj;rw[Ac3]at hj2;refine⟨_,E4,?_⟩;refine R1 rfl (EI.to (e_i (e_i (h8 (ds:=cD (j+1)) (X8 (i:=1) rfl) (A1 (i:=2) rfl) rfl (aV6 (Nat.lt_succ_self j))) (Q1 (e_i B1 (A1 (i:=2) rfl) (aI6 (by decide) (by omega))) B1) (Y4 (by omega) (aE0 (by omega)))) (Q1 (A1 (i:=2) rfl) B1) ⟨by omega,by omega⟩) (aO4 j)) (by rw[bC8];unfold PySem.sizeLine;omega) ⟨.val (.int (j:Int)),rfl,?_⟩
  rw[<- aU1 (j+1)];rfl
 ·rintro _ ⟨x2,b2,rfl⟩;have el:(L5 0 (((m+2:Nat):Int)).toNat).length=m+2:=by unfold L5;simp;omega
  rw[el];have at1:∀{mm:Bool} (k:Nat) {t:TE},k<=m+2->LV.E K false t [.val (.int (m:Int)),.own (cD (m+2+1)),x2] (.int (k:Int))->LV.E K mm (tOp (rIx K) (K8 1) t) [.val (.int (m:Int)),.own (cD (m+2+1)),x2] (.int (ctn k:Int)):=λ{mm} k {t} hk ht=>LV.E.bor (LV.E.imm (m:=false) (h8 (d:=.list (cD (m+2+1))) (ds:=cD (m+2+1)) (X8 (i:=1) (ds:=cD (m+2+1)) rfl) ht rfl (aV6 (by omega))))
  have m1:(m:Int)+1=((m+1:Nat):Int):=by omega
  have m2:(m:Int)+2=((m+2:Nat):Int):=by omega
  exact K5 (Q1 (e_i (at1 m (by omega) (A1 (i:=0) rfl)) (at1 (m+2) (by omega) (EI.to (Q1 (A1 (i:=0) rfl) B1) m2)) (Y4 (by omega) (y0 (by omega)))) (e_i (at1 (m+1) (by omega) (EI.to (Q1 (A1 (i:=0) rfl) B1) m1)) (at1 (m+1) (by omega) (EI.to (Q1 (A1 (i:=0) rfl) B1) m1)) (Y4 (by omega) (y0 (by omega))))) rfl
end
end K47
namespace L2
open PySem PySem.Spec PyProof.Rows
abbrev qn (κ:Bool):String:=match κ with | true => "list_iterator" | false => "tuple_iterator"
section
variable {prog:Program}{w:World}{A:Around}{E:Value->Shared->Prop}{s:Shared}{κ:Bool}
structure ZAp (z TI TO i1 i2 l1 l2:Addr):Prop where
 nd:[z,TI,TO,i1,i2].Nodup
 m1:l1∉[z,TO,i1,i2]
 m2:l2∉[z,TO,i1,i2]
abbrev zT1 (κ:Bool)(h:Heap)(l1:Addr):Heap:=h.push {cls:=.type (qn κ),data:=.fields #[.ref l1,.int 0 0]}
abbrev zT2 (κ:Bool)(h:Heap)(l1 l2:Addr):Heap:=(zT1 κ h l1).push {cls:=.type "tuple_iterator",data:=.fields #[.ref l2,.int 0 0]}
abbrev zT3 (κ:Bool)(h:Heap)(l1 l2:Addr):Heap:=(zT2 κ h l1 l2).push {cls:=.type "tuple",data:=.seq #[.ref h.objs.size,.ref (zT1 κ h l1).objs.size]}
abbrev zT4 (κ:Bool)(h:Heap)(l1 l2:Addr):Heap:=(zT3 κ h l1 l2).push {cls:=.type "tuple",data:=.seq #[.none,.none]}
abbrev zT5 (κ:Bool)(h:Heap)(l1 l2:Addr):Heap:=(zT4 κ h l1 l2).push {cls:=.type "zip",data:=.fields #[.none,.bool false,.bool false,.ref (zT2 κ h l1 l2).objs.size,.ref (zT3 κ h l1 l2).objs.size]}
end
theorem bN0 (n a b:Nat)(ha:a<n)(hb:b<n):ZAp (n+4) (n+2) (n+3) n (n+1) a b/\a≠n+2/\b≠n+2/\∀c∈[n+4,n+2,n+3,n,n+1],n<=c:=by
 have nd:([n+4,n+2,n+3,n,n+1]:List Nat).Nodup:=by
  simp only[Aa4,Aa1,Ac0,or_false,not_or,not_false_eq_true,List.nodup_nil,and_true];omega
 have ma:a∉([n+4,n+3,n,n+1]:List Nat):=by simp only[Aa1,Ac0,or_false,not_or];omega
 have mb:b∉([n+4,n+3,n,n+1]:List Nat):=by simp only[Aa1,Ac0,or_false,not_or];omega
 refine⟨⟨nd,ma,mb⟩,by omega,by omega,λc hc=>?_⟩
 simp only[Aa1,Ac0,or_false]at hc;omega
end L2
namespace LV
open PySem PySem.Spec PyProof.Rows L2
section
variable {K:PySem.W.Frag}{ρ:List Sl}{m:Bool}{t ta tb:TE}{d d':PyData}{ds es:List PyData}
def zpD:List PyData->List PyData->List PyData
 | d::ds,e::es=>.tuple [d,e]::zpD ds es
 | _,_=>[]
theorem aI9:∀{ds es:List PyData},ds.length=es.length->(zpD ds es).length=ds.length
 | [],[],_=>rfl
 | d::ds,e::es,h=>by simp[zpD,aI9 (ds:=ds) (es:=es) (by simpa using h)]
theorem aG2:∀{ds es:List PyData} {i:Nat} {d:PyData},(zpD ds es)[i]? = some d->∃x y,ds[i]? = some x/\es[i]? = some y/\d=.tuple [x,y]
 | [],_,_,_,h=>by simp[zpD]at h
 | _::_,[],_,_,h=>by simp[zpD]at h
 | x::ds,y::es,0,d,h=>⟨x,y,rfl,rfl,by simpa[zpD]using h.symm⟩
 | x::ds,y::es,i+1,d,h=>by
  obtain ⟨u,v,h1,h2,h3⟩:=aG2 (ds:=ds) (es:=es) (i:=i) (d:=d) (by simpa[zpD]using h)
  exact⟨u,v,by simpa using h1,by simpa using h2,h3⟩
end
end LV
namespace L2
open PySem PySem.Spec PyProof.Rows
end L2
namespace LV
open PySem PySem.Spec PyProof.Rows L2
end LV
namespace L2
open PySem PySem.Spec PyProof.Rows
def Ies (x:Str):It:=
 ⟨λi _=>i<x.cps.size,λi H v H'=>∃T c,v=.ref T/\H T=none/\H'=upd H T (.tup [.int (i:Int),.str ⟨#[c]⟩])/\x.cps[i]? = some c,λi _=>x.cps.size<=i⟩
theorem aR4 {P:Program}{w:World}{K:PySem.W.Frag}{elts:List Expr}{k:_}{pos:Pos}(x:Str)(t:Tok)(e it:Addr)(hne:e≠it):aL5 P w K (.Tuple elts k pos) (Ies x) [e,it] e (λi h=>(∃old,IsEnum h e it (i:Int) old)/\h.IsStrIter it "str_ascii_iterator" x t i) where
 mem:=by simp
 obj:=λi h st b hb=>by
  obtain ⟨⟨old,he⟩,o,e1,c1,d⟩:=st;rcases Aa1.mp hb with rfl | hb
  ·exact⟨_,he,λv z=>by cases z⟩
  ·have eb:b=it:=by simpa using hb
   subst eb;exact⟨o,e1,λv z=>by rw[d]at z;cases z⟩
 keep:=λi h h' st k=>⟨⟨st.1.choose,k e (by simp) _ st.1.choose_spec⟩,by obtain ⟨o,q,r⟩:=st.2;exact⟨o,k it (by simp) o q,r⟩⟩
 item:=by
  intro X hP hw hK hc i pins s σ H E I hf st hg;subst hP hw hK;obtain ⟨⟨old,he⟩,hi⟩:=st;have hg:i<x.cps.size:=hg;refine wpAny_pyNext_enum_itemD (Draws.strAscii (A:=X.A.in1) (I.ok.hd hc) it x t) he hi hg hne (by simp[hne]) λy h' tk hy ho hst hT hs kp=>?_
  obtain ⟨c,u,hcx,rfl⟩:=hy;refine⟨_,rfl,?_⟩;have Te:s.heap.objs.size≠e:=λz=>by have h1:=Ab2 he;rw[z]at h1;exact Ad2 _ h1
  have Ti:s.heap.objs.size≠it:=λz=>by obtain ⟨o,ei,_⟩:=hi;have h1:=Ab2 ei;rw[z]at h1;exact Ad2 _ h1
  unfold letOwnedTupleGo;refine wpAny_bind (wpAny_load ho ?_);dsimp only;rw[if_pos (by simp[rawInt])]
  refine wpAny_bind (wpAny_rule ?_);unfold updateField;refine wpAny_bind (wpAny_load ho ?_);dsimp only;rw[if_pos (by simp)]
  refine wpAny_update ho ?_;have he2:(h'.update e (Obj.mapFields λx=>x.setIfInBounds 0 .none)).get? e=some {cls:=.type "enumerate",data:=.fields #[.none,.bool false,.ref it,rawInt ((i:Int)+1),.none,.str ⟨#[c]⟩ u]}:=Heap.get?_update_self (h:=h') (o:={cls:=.type "enumerate",data:=.fields #[rawInt (s.heap.objs.size:Int),.bool false,.ref it,rawInt ((i:Int)+1),.none,.str ⟨#[c]⟩ u]}) (λo=>Obj.mapFields (λx=>x.setIfInBounds 0 .none) o) ho rfl
  have kp2:∀b o,b≠e->h'.get? b=some o->(h'.update e (Obj.mapFields λx=>x.setIfInBounds 0 .none)).get? b=some o:=λb o hb q=>by rw[Heap.get?_update_ne _ _ _ _ hb];exact q
  have hT2:=kp2 s.heap.objs.size _ Te hT
  refine⟨.ref s.heap.objs.size,upd H s.heap.objs.size (.tup [.int (i:Int),.str ⟨#[c]⟩]),?_,rfl,⟨_,c,rfl,I.hok.fresh (Aa6 _),rfl,hcx⟩,⟨⟨_,by rw[show((i+1:Nat):Int)=(i:Int)+1 by omega];exact he2⟩,by obtain ⟨o,q,r⟩:=hst;exact⟨o,kp2 it o (Ne.symm hne) q,r⟩⟩,λb hb=>?_⟩
  ·refine I.turnedLaid (t':=tk+1) (fp:=[e,it]) (λb o hb q=>kp2 b o (λz=>hb (by simp[z])) (kp b o (λz=>hb (by simp[z])) (λz=>hb (by simp[z])) q)) hf (Aa6 _) ?_
   exact⟨by show 2<=sizeLine;decide,[.int (i:Int) tk,.str ⟨#[c]⟩ u],.cons ⟨_,rfl⟩ (.cons ⟨_,rfl⟩ .nil),⟨_,hT2,rfl,⟨_,rfl⟩,rfl⟩⟩
  ·rw[B2]
   ·exact(hf b hb).1
   ·rcases Aa1.mp hb with rfl | hb
    ·exact Ne.symm Te
    ·have eb:b=it:=by simpa using hb
     subst eb;exact Ne.symm Ti
 done:=by
  intro X hP hw hK hc i pins s σ H E I hf st hg;subst hP hw hK;obtain ⟨⟨old,he⟩,hi⟩:=st;have hg:x.cps.size<=i:=hg;have D0:=Draws.strAscii (prog:=X.prog) (w:=X.w) (A:=X.A.in1) (I.ok.hd hc) it x t;have hD:Draws X.prog X.w X.A.in1 it [it] i (λ_ _=>False) (λj h=>j=i/\h.IsStrIter it "str_ascii_iterator" x t i):=⟨λj h st=>D0.live i h st.2,λj h h' st k=>⟨st.1,D0.frame i h h' st.2 k⟩,λj s Q E hj st _=>absurd st.1 (Ab7 hj),λs Q E st h=>wpAny_nextOf_ascii_end (I.ok.hd hc) st.2 (by simp;exact hg) h⟩
  exact wpAny_pyNext_enum_endD hD he ⟨rfl,hi⟩ λh' eb=>⟨rfl,I.turnedL (t':=s.toks) (λb o hb q=>eb b o (λz=>hb (by simp[z])) q) hf⟩
 self:=λ_ _ _ _ _ st h=>wpAny_pyIter_enum st.1.choose_spec h
section
variable {X:Cx}{elts:List Expr}{k:Nat}{ps:Pos}
def aQ4 (ta:TA):TI:=λσ H R=>ta σ H λvs H1=>∃x:Str,vs=[.str x]/\x.cps.all (· < 128)=true/\R (Ies x) H1
theorem bH2 {l:Expr}{ta:TA}{p pos:Pos}(hg:Gl X "enumerate")(hm:X.mg "enumerate" = none)(ha:PA X [l] ta)(hs:starEach [l] X.env=[(false,eval l X.env)]:=by rfl):PI X (.Tuple elts k ps) (.Call (.Name "enumerate" p) [l] [] pos) (aQ4 ta):=by
 refine⟨?_⟩;intro pins s σ H R I h;refine Call_ (j4 I hg hm boot_enumerate (PyProof.Rows.callWith_type1 (thn (ha pos pins s σ H _ I h) λus s1 ⟨vs,H1,I1,r1,q1⟩=>?_) hs rfl))
 obtain ⟨x,e,hx,q⟩:=q1;subst e;obtain ⟨u,rfl,t,rfl⟩:=u5 r1;refine call_enumerate_str λh' he hi _ kp=>?_
 have hi':h'.IsStrIter s1.heap.objs.size "str_ascii_iterator" x t 0:=by simpa[strIterType,hx]using hi
 refine wpAny_pyIter_enum he ?_;refine⟨s1.heap.objs.size+1,[s1.heap.objs.size+1,s1.heap.objs.size],_,_,H1,rfl,I1.kept (t':=s1.toks) kp,aR4 x t _ _ (by simp),⟨⟨_,he⟩,hi'⟩,λb hb=>?_,q⟩
 rcases Aa1.mp hb with rfl | hb
 ·exact I1.fpOk (Nat.le_succ _) (I1.hok.fresh (Nat.le_succ _))
 ·have e:b=s1.heap.objs.size:=by simpa using hb
  subst e;exact I1.fpOk (Aa6 _) (I1.hok.fresh (Aa6 _))
end
end L2
namespace LV
open PySem PySem.Spec PyProof.Rows L2
section
variable {K:PySem.W.Frag}{ρ:List Sl}{m:Bool}{t ta tb:TE}{d d':PyData}{ds es:List PyData}
theorem bJ3 {t:TA}{l:List Nat}(h:A K m t ρ [.str (tx l)])(ha:∀c∈l,c<128):I K m (aQ4 t) ρ (enD (sgD l)):=λS B σ H o J R q=>h S B σ H o J _ λvs H1 s1 r=>by
 cases r with
 | cons a b=>
  cases b;cases a
  refine⟨_,rfl,?_,q _ H1 s1 ⟨λi H _ l'=>?_,λi H d _ e=>?_,λi H d x H' h e y=>?_⟩⟩
  ·simpa[tx]using ha
  ·show(tx l).cps.size<=i
   rw[l0]at l';simpa[tx,sgD]using l'
  ·show i<(tx l).cps.size
   have:=(Aa9.mp e).1
   rw[l0]at this;simpa[tx,sgD]using this
  ·obtain ⟨z,e',rfl⟩:=aB6 e;obtain ⟨T,c,rfl,hT,rfl,hc⟩:=y;have hc:l[i]? = some c:=by simpa[tx]using hc
   unfold sgD at e';rw[Aa8,hc]at e';cases e';refine⟨F4 hT,λS hS=>?_⟩
   exact .tup (SqT.of (hid_some.mpr ⟨λz=>(hS T z).2 hT,C7⟩)) (.cons (.int _) (.cons (.str _) .nil))
end
end LV
namespace L2
open PySem PySem.Spec PyProof.Rows
abbrev zO (f0 f1:Value)(TI TO:Addr):Obj:={cls:=.type "zip",dict:=none,data:=.fields #[f0,f1,.bool false,.ref TI,.ref TO],slots := #[]}
section
variable {prog:Program}{w:World}{A:Around}{E:Value->Shared->Prop}{s:Shared}
theorem aL7 {a:Addr}{Q:Option Obj->Shared->Prop}(h:Q (s.heap.get? a) s):wpAny (model prog w) A (loadIfAlive a) Q E s:=λ Γ p _=>by
 unfold loadIfAlive;rw[Sem.wp_loadIfAlive];exact h
theorem aN6 {z TI TO:Addr}{f0 f1:Value}{Q:Bool->Shared->Prop}(hz:s.heap.get? z=some (zO f0 f1 TI TO))(h0:f0=.none\/∃T:Nat,f0=rawInt (T:Int))
  (h:∀b f h',h'.get? z=some (zO f0 f TI TO)->h'.objs.size=s.heap.objs.size->(∀c o,c≠z->s.heap.get? c=some o->h'.get? c=some o)->Q b {s with heap:=h'}):wpAny (model prog w) A (Builtin.SmallTypes.ownedTupleIsFree (.ref z)) Q E s:=by
 unfold Builtin.SmallTypes.ownedTupleIsFree;refine wpAny_bind (wpAny_field hz rfl (x:=f0) rfl ?_);have hs:∀b,Q b s:=λb=>h b f1 s.heap hz rfl λ_ _ _ e=>e
 rcases h0 with rfl | ⟨T,rfl⟩
 ·exact wpAny_pure (hs _)
 ·show wpAny _ _ (loadIfAlive (T:Int).toNat >>= _) _ _ _
  refine wpAny_bind (aL7 ?_);by_cases c:(s.heap.get? (T:Int).toNat).isNone=true
  ·rw[if_pos c];exact wpAny_pure (hs _)
  ·rw[if_neg c];refine wpAny_bind (wpAny_field hz rfl (x:=f1) rfl ?_);by_cases c1:(f1 != .bool true)=true
   ·rw[if_pos c1];refine wpAny_bind (wpAny_setField_rec hz (by simp) λh' hz' hs'=>wpAny_pure (h _ _ h' hz' hs'.1 λc o hc e=>hs'.extBut _ _ hc e))
   ·rw[if_neg c1];exact wpAny_pure (hs _)
theorem aX6 {z TI TO i1 i2 l1 l2:Addr}{k:Nat}{xs ys:Array Value}{x y a b f0 f1:Value}{Q:Value->Shared->Prop}(D:ZAp z TI TO i1 i2 l1 l2)(hz:s.heap.get? z=some (zO f0 f1 TI TO))(h0:f0=.none\/∃T:Nat,f0=rawInt (T:Int))(hTI:IsPair s.heap TI (.ref i1) (.ref i2))(hTO:IsPair s.heap TO a b)
  (h1:s.heap.IsListIter i1 l1 k) (h2:s.heap.IsListIter i2 l2 k) (t1:s.heap.IsList l1 xs) (t2:s.heap.IsList l2 ys) (hx:xs[k]? = some x) (hy:ys[k]? = some y)
  (hQ:∀h' f0' f1',h'.get? z=some (zO f0' f1' TI TO)->(f0'=.none\/∃T:Nat,f0'=rawInt (T:Int))->(∃a b,IsPair h' TO a b)->h'.IsListIter i1 l1 (k+1)->h'.IsListIter i2 l2 (k+1)->IsPair h' s.heap.objs.size x y->h'.objs.size=s.heap.objs.size+1->(∀c o,c∉[z,TO,i1,i2]->s.heap.get? c=some o->h'.get? c=some o)->Q (.ref s.heap.objs.size) {s with heap:=h'}) :
  wpAny (model prog w) A (Builtin.«zip.__next__» ⟨[.ref z],[]⟩) (λfin s'=>∃v,fin=.done (.ret v)/\Q v s') E s:=by
 obtain ⟨nd,m1,m2⟩:=D;simp only[Aa4,Aa1,Ac0,or_false,not_or,not_false_eq_true,List.nodup_nil,and_true]at nd m1 m2;obtain ⟨⟨n1,n2,n3,n4⟩,⟨n5,n6,n7⟩,⟨n8,n9⟩,n10⟩:=nd;obtain ⟨p1,p2,p3,p4⟩:=m1;obtain ⟨q1,q2,q3,q4⟩:=m2;show wpAny _ _ (field (.ref z) 2 >>= _) _ _ _;refine wpAny_bind (wpAny_field hz rfl (x:=.bool false) rfl ?_);show wpAny _ _ (field (.ref z) 3 >>= _) _ _ _;refine wpAny_bind (wpAny_field hz rfl (x:=.ref TI) rfl (wpAny_bind (wpAny_seqItems hTI rfl ?_)));show wpAny _ _ (Builtin.SmallTypes.ownedTupleIsFree (.ref z) >>= _) _ _ _;refine wpAny_bind (aN6 hz h0 λfr f g0 z0 sz0 k0=>?_)
 have k0':=λc (hc:c≠z) o (e:s.heap.get? c=some o)=>k0 c o hc e
 have O0:IsPair g0 TO a b:=k0 TO _ (Ne.symm n2) hTO
 have I1:g0.IsListIter i1 l1 k:=h1.at (k0' i1 (Ne.symm n3))
 have I2:g0.IsListIter i2 l2 k:=h2.at (k0' i2 (Ne.symm n4))
 have L1:g0.IsList l1 xs:=t1.at (k0' l1 p1)
 have L2:g0.IsList l2 ys:=t2.at (k0' l2 q1)
 cases fr
 ·simp only[Bool.false_eq_true,if_false];refine wpAny_bind ?_;rw[<- Array.forIn_toList];simp only[List.forIn_cons,List.forIn_nil];refine wpAny_bind (wpAny_bind (wpAny_holding ?_));show wpAny _ _ (Builtin.SmallTypes.nextOf (.ref i1) >>= _) _ _ _;refine wpAny_bind (wpAny_nextOf_list_item I1 L1 hx λg2 i1₂ s2=>wpAny_pure (wpAny_pure ?_))
  refine wpAny_bind (wpAny_bind (wpAny_holding ?_));show wpAny _ _ (Builtin.SmallTypes.nextOf (.ref i2) >>= _) _ _ _;refine wpAny_bind (wpAny_nextOf_list_item (I2.at λo e=>s2.extBut _ _ (Ne.symm n10) e) (L2.at λo e=>s2.extBut _ _ q3 e) hy λg4 i2₄ s4=>wpAny_pure (wpAny_pure (wpAny_pure ?_)))
  refine wpAny_bind (wpAny_newTuple (hsz:=(by decide:(2:Nat)<=sizeLine)) (wpAny_pure ⟨_,rfl,?_⟩))
  have sz:g4.objs.size=s.heap.objs.size:=by rw[s4.1,s2.1,sz0]
  have up:∀c o,c≠i1->c≠i2->g0.get? c=some o->(g4.push {cls:=.type "tuple",data:=.seq #[x,y]}).get? c=some o:=λc o c1 c2 e=>Aa5 _ (s4.extBut _ _ c2 (s2.extBut _ _ c1 e))
  have T4:IsPair (g4.push {cls:=.type "tuple",data:=.seq #[x,y]}) g4.objs.size x y:=Ac1 _ rfl
  rw[sz]at T4;show Q (.ref g4.objs.size) _;rw[sz];refine hQ _ f0 f (up _ _ n3 n4 z0) h0 ⟨a,b,up _ _ n8 n9 O0⟩ ((i1₂.at λo e=>s4.extBut _ _ n10 e).at λo e=>Aa5 _ e) (i2₄.at λo e=>Aa5 _ e) T4 (by rw[Heap.size_push,sz]) λc o hc e=>?_
  simp only[Aa1,Ac0,or_false,not_or]at hc;exact up c o hc.2.2.1 hc.2.2.2 (k0 c o hc.1 e)
 simp only[if_true];refine wpAny_bind (wpAny_rule (wpAny_bind (wpAny_field z0 rfl (x:=.ref TO) rfl (wpAny_bind (wpAny_setField_rec z0 (by simp) λg1 z1 s1=>wpAny_bind ?_)))))
 replace z1:g1.get? z=some (zO .ellipsis f TI TO):=z1;simp only[List.zipIdx_cons,List.zipIdx_nil,List.forIn_cons,List.forIn_nil]
 refine wpAny_bind (wpAny_bind (wpAny_onRaise ?_));show wpAny _ _ (Builtin.SmallTypes.nextOf (.ref i1) >>= _) _ _ _;have k1:=λc (hc:c≠z) o (e:g0.get? c=some o)=>s1.extBut _ _ hc e
 refine wpAny_bind (wpAny_nextOf_list_item (I1.at (k1 i1 (Ne.symm n3))) (L1.at (k1 l1 p1)) hx λg2 i1₂ s2=>wpAny_pure ?_)
 have o2:IsPair g2 TO a b:=s2.extBut _ _ n8 (k1 TO (Ne.symm n2) _ O0)
 refine wpAny_bind (wpAny_seqItems o2 rfl (wpAny_bind (wpAny_updateSeq_pair o2 λg3 o3 s3=>wpAny_bind (wpAny_letGo (wpAny_pure ?_)))));replace o3:IsPair g3 TO x b:=o3
 refine wpAny_bind (wpAny_bind (wpAny_onRaise ?_));show wpAny _ _ (Builtin.SmallTypes.nextOf (.ref i2) >>= _) _ _ _;have k3:=λc (hc:c≠z) (hc2:c≠i1) (hc3:c≠TO) o (e:g0.get? c=some o)=>s3.extBut _ _ hc3 (s2.extBut _ _ hc2 (k1 c hc o e))
 refine wpAny_bind (wpAny_nextOf_list_item (I2.at (k3 i2 (Ne.symm n4) (Ne.symm n10) (Ne.symm n9))) (L2.at (k3 l2 q1 q3 q2)) hy λg4 i2₄ s4=>wpAny_pure ?_)
 have o4:IsPair g4 TO x b:=s4.extBut _ _ n9 o3
 refine wpAny_bind (wpAny_seqItems o4 rfl (wpAny_bind (wpAny_updateSeq_pair o4 λg5 o5 s5=>wpAny_bind (wpAny_letGo (wpAny_pure (wpAny_pure ?_))))));replace o5:IsPair g5 TO x y:=o5
 refine wpAny_bind (wpAny_seqItems o5 rfl (wpAny_bind (wpAny_newTuple ?_)));have sz:g5.objs.size=s.heap.objs.size:=by rw[s5.1,s4.1,s3.1,s2.1,s1.1,sz0]
 have k5:=λc (hc:c≠z) (hc2:c≠i1) (hc3:c≠TO) (hc4:c≠i2) o (e:g0.get? c=some o)=>s5.extBut _ _ hc3 (s4.extBut _ _ hc4 (k3 c hc hc2 hc3 o e))
 have z5:g5.get? z=some (zO .ellipsis f TI TO):=s5.extBut _ _ n2 (s4.extBut _ _ n4 (s3.extBut _ _ n2 (s2.extBut _ _ n3 z1)))
 have i1₅:g5.IsListIter i1 l1 (k+1):=i1₂.at λo e=>s5.extBut _ _ (Ne.symm n8) (s4.extBut _ _ n10 (s3.extBut _ _ (Ne.symm n8) e))
 have i2₅:g5.IsListIter i2 l2 (k+1):=i2₄.at λo e=>s5.extBut _ _ (Ne.symm n9) e
 show wpAny _ _ (Builtin.SmallTypes.ownedTupleHandOut (.ref z) (.ref g5.objs.size) >>= _) _ _ _
 refine wpAny_bind ?_;unfold Builtin.SmallTypes.ownedTupleHandOut;have z6:(g5.push {cls:=.type "tuple",data:=.seq #[x,y]}).get? z=some (zO .ellipsis f TI TO):=Aa5 _ z5;refine wpAny_bind (wpAny_setField_rec z6 (by simp) λg7 z7 s7=>?_);replace z7:g7.get? z=some (zO (rawInt g5.objs.size) f TI TO):=z7
 refine wpAny_setField_rec z7 (by simp) λg8 z8 s8=>?_;replace z8:g8.get? z=some (zO (rawInt g5.objs.size) (.bool false) TI TO):=z8
 have up:∀c o,c≠z->(g5.push {cls:=.type "tuple",data:=.seq #[x,y]}).get? c=some o->g8.get? c=some o:=λc o c1 e=>s8.extBut _ _ c1 (s7.extBut _ _ c1 e)
 have up':∀c o,c≠z->g5.get? c=some o->g8.get? c=some o:=λc o c1 e=>up c o c1 (Aa5 _ e)
 have T8:IsPair g8 g5.objs.size x y:=up _ _ (Nat.ne_of_gt (Ab2 z5)) (Ac1 _ rfl)
 rw[sz]at z8 T8;refine wpAny_pure ⟨_,rfl,?_⟩;show Q (.ref g5.objs.size) _;rw[sz];refine hQ g8 _ _ z8 (.inr ⟨_,rfl⟩) ⟨_,_,up' _ _ (Ne.symm n2) o5⟩ (i1₅.at λo e=>up' _ o (Ne.symm n3) e) (i2₅.at λo e=>up' _ o (Ne.symm n4) e) T8 (by rw[s8.1,s7.1,Heap.size_push,sz]) λc o hc e=>?_
 simp only[Aa1,Ac0,or_false,not_or]at hc;exact up' c o hc.1 (k5 c hc.1 hc.2.2.1 hc.2.1 hc.2.2.2 o (k0 c o hc.1 e))
theorem bC5 {z TI TO i1 i2 l1 l2:Addr}{k:Nat}{xs:Array Value}{a b f0 f1:Value}{Q:PySem.Fin->Shared->Prop}(hh:A.handled=none)(D:ZAp z TI TO i1 i2 l1 l2)(hz:s.heap.get? z=some (zO f0 f1 TI TO))(h0:f0=.none\/∃T:Nat,f0=rawInt (T:Int))(hTI:IsPair s.heap TI (.ref i1) (.ref i2))(hTO:IsPair s.heap TO a b)
  (h1:s.heap.IsListIter i1 l1 k) (t1:s.heap.IsList l1 xs) (hx:xs[k]? = none)
  (hE:∀h' e,(∀c o,c∉[z,TO,i1,i2]->s.heap.get? c=some o->h'.get? c=some o)->(∃o,h'.get? e=some o/\o.cls=.type "StopIteration")->E (.ref e) {s with heap:=h'}) :
  wpAny (model prog w) A (Builtin.«zip.__next__» ⟨[.ref z],[]⟩) Q E s:=by
 obtain ⟨nd,m1,m2⟩:=D;simp only[Aa4,Aa1,Ac0,or_false,not_or,not_false_eq_true,List.nodup_nil,and_true]at nd m1 m2;obtain ⟨⟨n1,n2,n3,n4⟩,⟨n5,n6,n7⟩,⟨n8,n9⟩,n10⟩:=nd;obtain ⟨p1,p2,p3,p4⟩:=m1;show wpAny _ _ (field (.ref z) 2 >>= _) _ _ _;refine wpAny_bind (wpAny_field hz rfl (x:=.bool false) rfl ?_);show wpAny _ _ (field (.ref z) 3 >>= _) _ _ _;refine wpAny_bind (wpAny_field hz rfl (x:=.ref TI) rfl (wpAny_bind (wpAny_seqItems hTI rfl ?_)));show wpAny _ _ (Builtin.SmallTypes.ownedTupleIsFree (.ref z) >>= _) _ _ _;refine wpAny_bind (aN6 hz h0 λfr f g0 z0 sz0 k0=>?_)
 have I1:g0.IsListIter i1 l1 k:=h1.at λo e=>k0 i1 o (Ne.symm n3) e
 have L1:g0.IsList l1 xs:=t1.at λo e=>k0 l1 o p1 e
 cases fr
 ·simp only[Bool.false_eq_true,if_false];refine wpAny_bind ?_;rw[<- Array.forIn_toList];simp only[List.forIn_cons,List.forIn_nil];refine wpAny_bind (wpAny_bind (wpAny_holding ?_));show wpAny _ _ (Builtin.SmallTypes.nextOf (.ref i1) >>= _) _ _ _;refine wpAny_bind (wpAny_nextOf_list_end hh I1 L1 hx λg2 e s2 he=>hE g2 e (λc o hc x=>?_) he)
  simp only[Aa1,Ac0,or_false,not_or]at hc;exact s2 _ _ hc.2.2.1 (k0 c o hc.1 x)
 simp only[if_true];refine wpAny_bind (wpAny_rule (wpAny_bind (wpAny_field z0 rfl (x:=.ref TO) rfl (wpAny_bind (wpAny_setField_rec z0 (by simp) λg1 z1 s1=>wpAny_bind ?_)))))
 replace z1:g1.get? z=some (zO .ellipsis f TI TO):=z1;simp only[List.zipIdx_cons,List.zipIdx_nil,List.forIn_cons,List.forIn_nil]
 refine wpAny_bind (wpAny_bind (wpAny_onRaise ?_));show wpAny _ _ (Builtin.SmallTypes.nextOf (.ref i1) >>= _) _ _ _;have k1:=λc (hc:c≠z) o (e:g0.get? c=some o)=>s1.extBut _ _ hc e
 refine wpAny_bind (wpAny_nextOf_list_end hh (I1.at (k1 i1 (Ne.symm n3))) (L1.at (k1 l1 p1)) hx λg2 e s2 he=>?_)
 obtain ⟨oe,hoe,hce⟩:=he;have z2:g2.get? z=some (zO .ellipsis f TI TO):=s2 _ _ n3 z1;have ez:e≠z:=λx=>by subst x;rw[z2]at hoe;cases hoe;simp at hce
 refine wpAny_setField_rec z2 (by simp) λg3 _ s3=>hE g3 e (λc o hc x=>?_) ⟨oe,s3.extBut _ _ ez hoe,hce⟩
 simp only[Aa1,Ac0,or_false,not_or]at hc;exact s3.extBut _ _ hc.1 (s2 _ _ hc.2.2.1 (k1 c hc.1 o (k0 c o hc.1 x)))
structure ZE (h:Heap)(e z TI TO i1 i2 l1 l2:Addr)(k:Nat):Prop where
 en:∃old,IsEnum h e z (k:Int) old
 zo:∃f0 f1,h.get? z=some (zO f0 f1 TI TO)/\(f0=.none\/∃T:Nat,f0=rawInt (T:Int))
 ti:IsPair h TI (.ref i1) (.ref i2)
 to:∃a b,IsPair h TO a b
 j1:h.IsListIter i1 l1 k
 j2:h.IsListIter i2 l2 k
theorem aP3 {e z TI TO i1 i2 l1 l2:Addr}{k:Nat}{xs ys:Array Value}{x y:Value}{Q:Option Value->Shared->Prop}(D:ZAp z TI TO i1 i2 l1 l2)(he:e∉[z,TI,TO,i1,i2])(Z:ZE s.heap e z TI TO i1 i2 l1 l2 k)
  (t1:s.heap.IsList l1 xs) (t2:s.heap.IsList l2 ys) (hx:xs[k]? = some x) (hy:ys[k]? = some y)
  (hQ:∀g h' tk,g.objs.size=s.heap.objs.size+1->IsPair g s.heap.objs.size x y->(∀c o,c∉[z,TO,i1,i2]->s.heap.get? c=some o->g.get? c=some o)->(∀c o,c≠e->g.get? c=some o->h'.get? c=some o) ->
   IsEnumOut h' e z ((k:Int)+1) (.ref s.heap.objs.size) (s.heap.objs.size+1)->(∃f0 f1,h'.get? z=some (zO f0 f1 TI TO)/\(f0=.none\/∃T:Nat,f0=rawInt (T:Int)))->IsPair h' TI (.ref i1) (.ref i2)->(∃a b,IsPair h' TO a b)->h'.IsListIter i1 l1 (k+1)->h'.IsListIter i2 l2 (k+1) ->
   IsPair h' (s.heap.objs.size+1) (.int k tk) (.ref s.heap.objs.size)->Q (some (.ref (s.heap.objs.size+1))) {s with heap:=h',toks:=tk+1}) :
  wpAny (model prog w) A (pyNext (.ref e)) Q E s:=by
 obtain ⟨⟨old,hen⟩,⟨f0,f1,hz,h0⟩,hTI,⟨a,b,hTO⟩,h1,h2⟩:=Z;have nd:=D.nd;simp only[Aa4,Aa1,Ac0,or_false,not_or,not_false_eq_true,List.nodup_nil,and_true]at nd he;obtain ⟨⟨n1,n2,n3,n4⟩,⟨n5,n6,n7⟩,⟨n8,n9⟩,n10⟩:=nd;obtain ⟨e1,e2,e3,e4,e5⟩:=he;obtain ⟨hp,gg,d,tk,os⟩:=s;have hT:(⟨hp,gg,d,tk,os⟩:Shared).TypeIs (.ref e) "enumerate" := ⟨_,hen,rfl⟩;have hTz:(⟨hp,gg,d,tk,os⟩:Shared).TypeIs (.ref z) "zip" := ⟨_,hz,rfl⟩;unfold pyNext;refine wpAny_bind (wpAny_attempt (wpAny_callSpecial?_slot (name:=Str.ofString "__next__") hT F.slot_enumerate_next (wpAny_call_entry F.slot_enumerate_next hT F.entry_enumerate_next ?_ (F.args_enumerate_next_1 _))));show wpAny _ _ (field (.ref e) 2 >>= _) _ _ _;refine wpAny_bind (wpAny_field hen rfl (x:=.ref z) rfl (wpAny_bind ?_));unfold Builtin.SmallTypes.nextOf;refine wpAny_bind (wpAny_callSpecial?_slot (name:=Str.ofString "__next__") hTz F.slot_zip_next (wpAny_call_entry F.slot_zip_next hTz F.entry_zip_next (aX6 D hz h0 hTI hTO h1 h2 t1 t2 hx hy λg f0' f1' gz g0 gTO g1 g2 gT gs gk=>wpAny_pure ?_) (F.args_zip_next_1 _)))
 have lt:∀{c o},hp.get? c=some o->c≠hp.objs.size:=λq=>Ab7 (Ab2 q)
 have ge:IsEnum g e z k old:=gk e _ (by simp[e1,e3,e4,e5]) hen
 have gTI:IsPair g TI (.ref i1) (.ref i2):=gk TI _ (by simp[Ne.symm n1,n5,n6,n7]) hTI
 show wpAny _ _ (field (.ref e) 3 >>= _) _ _ ⟨g,gg,d,tk,os⟩
 refine wpAny_bind (wpAny_field ge rfl (x:=rawInt k) rfl ?_);show wpAny _ _ (field (.ref e) 4 >>= _) _ _ ⟨g,gg,d,tk,os⟩;refine wpAny_bind (wpAny_field ge rfl (x:=.none) rfl ?_);show wpAny _ _ (mkInt k >>= _) _ _ ⟨g,gg,d,tk,os⟩;refine wpAny_bind (wpAny_mkInt ?_);show wpAny _ _ (setField (.ref e) 3 (rawInt ((k:Int)+1)) >>= _) _ _ ⟨g,gg,d,tk+1,os⟩;refine wpAny_bind (wpAny_setField_rec ge (by simp) λr2 re2 rs2=>?_)
 replace re2:IsEnum r2 e z ((k:Int)+1) old:=re2
 replace rs2:Heap.SameBut e g r2:=rs2
 show wpAny _ _ (setField (.ref e) 4 .none >>= _) _ _ ⟨r2,gg,d,tk+1,os⟩
 refine wpAny_bind (wpAny_setField_rec re2 (by simp) λr3 re3 rs3=>?_)
 replace re3:IsEnum r3 e z ((k:Int)+1) old:=re3
 replace rs3:Heap.SameBut e r2 r3:=rs3
 show wpAny _ _ (newTuple [.int k tk,.ref hp.objs.size] >>= _) _ _ ⟨r3,gg,d,tk+1,os⟩
 have sz:r3.objs.size=hp.objs.size+1:=by rw[rs3.1,rs2.1];exact gs
 refine wpAny_bind (wpAny_newTuple ?_);rw[sz];have re4:IsEnum (r3.push {cls:=.type "tuple",data:=.seq #[.int k tk,.ref hp.objs.size]}) e z ((k:Int)+1) old:=Aa5 _ re3;have T4:IsPair (r3.push {cls:=.type "tuple",data:=.seq #[.int k tk,.ref hp.objs.size]}) (hp.objs.size+1) (.int k tk) (.ref hp.objs.size):=by rw[<- sz];exact Ac1 _ rfl
 have k4:∀c o,c≠e->g.get? c=some o->(r3.push {cls:=.type "tuple",data:=.seq #[.int k tk,.ref hp.objs.size]}).get? c=some o:=λc o hc q=>Aa5 _ (rs3.extBut c o hc (rs2.extBut c o hc q))
 generalize r3.push {cls:=.type "tuple",data:=.seq #[.int k tk,.ref hp.objs.size]}=r4 at re4 T4 k4 ⊢;show wpAny _ _ (Builtin.SmallTypes.ownedTupleIsFree (.ref e) >>= _) _ _ ⟨r4,gg,d,tk+1,os⟩;refine wpAny_bind ?_;unfold Builtin.SmallTypes.ownedTupleIsFree;refine wpAny_bind (wpAny_field re4 rfl (x:=.none) rfl (wpAny_pure ?_));simp only[if_true];refine wpAny_bind (wpAny_rule (wpAny_bind (wpAny_field re4 rfl (x:=old) rfl (wpAny_bind (wpAny_setField_rec re4 (by simp) λr5 re5 rs5=>?_)))))
 replace re5:IsEnum r5 e z ((k:Int)+1) (.ref hp.objs.size):=re5
 replace rs5:Heap.SameBut e r4 r5:=rs5
 show wpAny _ _ (Builtin.SmallTypes.ownedTupleHandOut (.ref e) (.ref (hp.objs.size+1)) >>= _) _ _ ⟨r5,gg,d,tk+1,os⟩
 refine wpAny_bind ?_;unfold Builtin.SmallTypes.ownedTupleHandOut;refine wpAny_bind (wpAny_setField_rec re5 (by simp) λr6 re6 rs6=>?_)
 replace re6:IsEnumOut r6 e z ((k:Int)+1) (.ref hp.objs.size) (hp.objs.size+1):=re6
 replace rs6:Heap.SameBut e r5 r6:=rs6
 refine wpAny_setField_rec re6 (by simp) λr7 re7 rs7=>?_
 replace re7:IsEnumOut r7 e z ((k:Int)+1) (.ref hp.objs.size) (hp.objs.size+1):=re7
 replace rs7:Heap.SameBut e r6 r7:=rs7
 have k7:∀c o,c≠e->r4.get? c=some o->r7.get? c=some o:=λc o hc q=>rs7.extBut c o hc (rs6.extBut c o hc (rs5.extBut c o hc q))
 have up:∀c o,c≠e->g.get? c=some o->r7.get? c=some o:=λc o hc q=>k7 c o hc (k4 c o hc q)
 have eT:hp.objs.size+1≠e:=Nat.ne_of_gt (Nat.lt_succ_of_lt (Ab2 hen))
 refine wpAny_bind (wpAny_letGo (wpAny_pure ⟨_,rfl,?_⟩));refine wpAny_pure ?_;exact hQ g r7 tk gs gT gk up re7 ⟨f0',f1',up z _ (Ne.symm e1) gz,g0⟩ (up TI _ (Ne.symm e2) gTI) (by obtain ⟨u,v,q⟩:=gTO;exact⟨u,v,up TO _ (Ne.symm e3) q⟩) (g1.at λo q=>up i1 o (Ne.symm e4) q) (g2.at λo q=>up i2 o (Ne.symm e5) q) (k7 _ _ eT T4)
theorem aX8 {e z TI TO i1 i2 l1 l2:Addr}{k:Nat}{xs:Array Value}{Q:Option Value->Shared->Prop}(hh:A.handled=none)(D:ZAp z TI TO i1 i2 l1 l2)(Z:ZE s.heap e z TI TO i1 i2 l1 l2 k)
  (t1:s.heap.IsList l1 xs) (hx:xs[k]? = none) (hQ:∀h',(∀c o,c∉[z,TO,i1,i2]->s.heap.get? c=some o->h'.get? c=some o)->Q none {s with heap:=h'}) :
  wpAny (model prog w) A (pyNext (.ref e)) Q E s:=by
 obtain ⟨⟨old,hen⟩,⟨f0,f1,hz,h0⟩,hTI,⟨a,b,hTO⟩,h1,h2⟩:=Z;have hT:s.TypeIs (.ref e) "enumerate" := ⟨_,hen,rfl⟩;have hTz:s.TypeIs (.ref z) "zip" := ⟨_,hz,rfl⟩;unfold pyNext;refine wpAny_bind (wpAny_attempt (wpAny_callSpecial?_slot (name:=Str.ofString "__next__") hT F.slot_enumerate_next (wpAny_call_entry F.slot_enumerate_next hT F.entry_enumerate_next ?_ (F.args_enumerate_next_1 _))));show wpAny _ _ (field (.ref e) 2 >>= _) _ _ _;refine wpAny_bind (wpAny_field hen rfl (x:=.ref z) rfl (wpAny_bind ?_));unfold Builtin.SmallTypes.nextOf;refine wpAny_bind (wpAny_callSpecial?_slot (name:=Str.ofString "__next__") hTz F.slot_zip_next (wpAny_call_entry F.slot_zip_next hTz F.entry_zip_next (bC5 hh D hz h0 hTI hTO h1 t1 hx λh' x hk hx'=>?_) (F.args_zip_next_1 _)))
 obtain ⟨o,ho,hc⟩:=hx';exact wpAny_bind (wpAny_isInstance (T := "StopIteration") (b:=true) ⟨o,ho,hc⟩ isSubtype_stop (wpAny_pure (hQ _ hk)))
end
theorem FpOk.heap {X:Cx}{pins:List (Addr×Obj)}{H H':Hp}{b:Addr}(h:FpOk X pins H b)(hn:H' b=none):FpOk X pins H' b:=⟨hn,h.2⟩
def Iez (K:PySem.W.Frag)(a b:Addr):It:=
 ⟨λi H=>∃xs ys x y,SqL K H a xs/\xs[i]? = some x/\SqL K H b ys/\ys[i]? = some y,λi H v H'=>∃T U x y,v=.ref U/\H T=none/\upd H T (.tup [x,y]) U=none/\H'=upd (upd H T (.tup [x,y])) U (.tup [.int (i:Int),.ref T])/\(∀xs,SqL K H a xs->xs[i]? = some x)/\∀ys,SqL K H b ys->ys[i]? = some y,λi H=>∃xs ys,SqL K H a xs/\SqL K H b ys/\xs.length<=i⟩
theorem bK5 {P:Program}{w:World}{K:PySem.W.Frag}{elts:List Expr}{k:_}{pos:Pos}(a b e z TI TO i1 i2:Addr)(D:ZAp z TI TO i1 i2 a b)(he:e∉[z,TI,TO,i1,i2]):aL5 P w K (.Tuple elts k pos) (Iez K a b) [e,z,TI,TO,i1,i2] e (λi h=>ZE h e z TI TO i1 i2 a b i) where
 mem:=by simp
 obj:=λi h st c hc=>by
  obtain ⟨⟨old,hen⟩,⟨f0,f1,hz,h0⟩,hTI,⟨u,v,hTO⟩,⟨o1,e1,_,d1⟩,⟨o2,e2,_,d2⟩⟩:=st;simp only[Aa1,Ac0,or_false]at hc;rcases hc with rfl | rfl | rfl | rfl | rfl | rfl
  ·exact⟨_,hen,λv z=>by cases z⟩
  ·exact⟨_,hz,λv z=>by cases z⟩
  ·exact⟨_,hTI,λv z=>by cases z⟩
  ·exact⟨_,hTO,λv z=>by cases z⟩
  ·exact⟨o1,e1,λv z=>by rw[d1]at z;cases z⟩
  ·exact⟨o2,e2,λv z=>by rw[d2]at z;cases z⟩
 keep:=λi h h' st k=>by
  obtain ⟨⟨old,hen⟩,⟨f0,f1,hz,h0⟩,hTI,⟨u,v,hTO⟩,h1,h2⟩:=st;exact⟨⟨old,k e (by simp) _ hen⟩,⟨f0,f1,k z (by simp) _ hz,h0⟩,k TI (by simp) _ hTI,⟨u,v,k TO (by simp) _ hTO⟩,h1.at λo e=>k i1 (by simp) o e,h2.at λo e=>k i2 (by simp) o e⟩
 item:=by
  intro X hP hw hK hc i pins s σ H E I hf st hg;subst hP hw hK;obtain ⟨xs,ys,x,y,hq,hx,hq',hy⟩:=hg;obtain ⟨its,rv,p,_⟩:=I.list hq;obtain ⟨its',rv',p',_⟩:=I.list hq';obtain ⟨x',hu,ru⟩:=rv.get hx;obtain ⟨y',hu',ru'⟩:=rv'.get hy;have fr:∀c∈[e,z,TI,TO,i1,i2],c<s.heap.objs.size:=λc hc=>by
   obtain ⟨⟨old,hen⟩,⟨f0,f1,hz,h0⟩,hTI,⟨u,v,hTO⟩,⟨o1,e1,_,d1⟩,⟨o2,e2,_,d2⟩⟩:=st;simp only[Aa1,Ac0,or_false]at hc;rcases hc with rfl | rfl | rfl | rfl | rfl | rfl
   ·exact Ab2 hen
   ·exact Ab2 hz
   ·exact Ab2 hTI
   ·exact Ab2 hTO
   ·exact Ab2 e1
   ·exact Ab2 e2
  refine aP3 D he st p.isList p'.isList (x:=x') (y:=y') (by simpa using hu) (by simpa using hu') λg h' tk gs gT gk up re gz gTI gTO g1 g2 T4=>⟨_,rfl,?_⟩
  have hn1:H s.heap.objs.size=none:=I.hok.fresh (Aa6 _)
  have I1:Inv X pins σ (upd H s.heap.objs.size (.tup [x,y])) {s with heap:=g,toks:=s.toks}:=I.turnedLaid (t':=s.toks) (fp:=[e,z,TI,TO,i1,i2]) (λc o hc q=>gk c o (λm=>hc (by simp only[Aa1,Ac0,or_false]at m ⊢;rcases m with m | m | m | m <;> simp[m])) q) hf (Aa6 _) ⟨by show 2<=sizeLine;decide,[x',y'],.cons ru (.cons ru' .nil),⟨_,gT,rfl,⟨_,rfl⟩,rfl⟩⟩
  have hf1:∀c∈[e,z,TI,TO,i1,i2],upd H s.heap.objs.size (.tup [x,y]) c=none:=λc hc=>by
   rw[B2 (Ab7 (fr c hc))];exact(hf c hc).1
  have es:s.heap.objs.size+1≠e:=Nat.ne_of_gt (Nat.lt_succ_of_lt (fr e (by simp)))
  unfold letOwnedTupleGo;refine wpAny_bind (wpAny_load re ?_);dsimp only;rw[if_pos (by simp[rawInt])]
  refine wpAny_bind (wpAny_rule ?_);show wpAny _ _ (setField (.ref e) 0 .none) _ _ _;refine wpAny_setField_rec re (by simp) λh2 re2 s2=>?_
  replace re2:IsEnum h2 e z ((i:Int)+1) (.ref s.heap.objs.size):=re2
  have up2:∀c o,c≠e->h'.get? c=some o->h2.get? c=some o:=λc o hc q=>s2.extBut c o hc q
  simp only[Aa1,Ac0,or_false,not_or]at he;obtain ⟨e1,e2,e3,e4,e5⟩:=he;have hn2:upd H s.heap.objs.size (.tup [x,y]) (s.heap.objs.size+1)=none:=I1.hok.fresh (by show g.objs.size<=_;omega)
  refine⟨.ref (s.heap.objs.size+1),upd (upd H s.heap.objs.size (.tup [x,y])) (s.heap.objs.size+1) (.tup [.int (i:Int),.ref s.heap.objs.size]),?_,rfl,⟨_,_,x,y,rfl,hn1,hn2,rfl,λys hy=>by rw[I.list_inj hy hq];exact hx,λzs hz=>by rw[I.list_inj hz hq'];exact hy⟩,⟨⟨_,by rw[show((i+1:Nat):Int)=(i:Int)+1 by omega];exact re2⟩,by obtain ⟨f0,f1,q,r⟩:=gz;exact⟨f0,f1,up2 z _ (Ne.symm e1) q,r⟩,up2 TI _ (Ne.symm e2) gTI,by obtain ⟨u,v,q⟩:=gTO;exact⟨u,v,up2 TO _ (Ne.symm e3) q⟩,g1.at λo q=>up2 i1 o (Ne.symm e4) q,g2.at λo q=>up2 i2 o (Ne.symm e5) q⟩,λc hc=>?_⟩
  ·refine I1.turnedLaid (t':=tk+1) (fp:=[e]) (λc o hc q=>up2 c o (λz=>hc (by simp[z])) (up c o (λz=>hc (by simp[z])) q)) (λc hc=>?_) (by show g.objs.size<=_;omega) ?_
   ·have ec:c=e:=by simpa using hc
    subst ec;exact(hf c (by simp)).heap (hf1 c (by simp))
   ·exact⟨by show 2<=sizeLine;decide,[.int (i:Int) tk,.ref s.heap.objs.size],.cons ⟨_,rfl⟩ (.cons rfl .nil),⟨_,up2 _ _ es T4,rfl,⟨_,rfl⟩,rfl⟩⟩
  ·rw[B2 (Ab7 (Nat.lt_succ_of_lt (fr c hc)))];exact hf1 c hc
 done:=by
  intro X hP hw hK hc i pins s σ H E I hf st hg;subst hP hw hK;obtain ⟨xs,ys,hq,hq',hx⟩:=hg;obtain ⟨its,rv,p,_⟩:=I.list hq;have hl:=rv.length;exact aX8 (I.ok.hd hc) D st p.isList (by simp;omega) λh' kp=>⟨rfl,I.turnedL (t':=s.toks) (λc o hc q=>kp c o (λm=>hc (by simp only[Aa1,Ac0,or_false]at m ⊢;rcases m with m | m | m | m <;> simp[m])) q) hf⟩
 self:=λ_ _ _ _ _ st h=>wpAny_pyIter_enum st.en.choose_spec h
theorem aK7 (z TI TO:Addr)(f0:Value):Meets (Builtin.«enumerate.__new__» ⟨[.type "enumerate",.ref z],[]⟩) (λ_ R s=>IsZip s.heap z TI TO f0/\R (.ok (.ret (.ref s.heap.objs.size))) {s with heap:=s.heap.push {cls:=.type "enumerate",data:=.fields #[.none,.bool false,.ref z,rawInt 0,.none,.none]}}):=
 .of_wp λprog w A R s h=>by
  obtain ⟨hp,g,d,tk,os⟩:=s;obtain ⟨hl,h⟩:=h;have hsub:=sub_enumerate;have hL:IsZip (Shared.heap ⟨hp,g,d,tk,os⟩) z TI TO f0:=hl
  wp_walk using AutoSeq1.wpAny_loadPart' hl
  refine wpAny_stack_any λst=>wpAny_pure ?_
  split
  ·rename_i c _ _ _ _ _;cases (c==Value.type "enumerate") <;> (wp_walk using AutoSeq1.wpAny_loadPart' hl,wpAny_pyIter_zip hL;exact⟨_,rfl,h⟩)
  ·wp_walk using AutoSeq1.wpAny_loadPart' hl,wpAny_pyIter_zip hL
   exact⟨_,rfl,h⟩
theorem aP2 {prog:Program}{w:World}{A:Around}{E:Value->Shared->Prop}{s:Shared}{z TI TO:Addr}{f0:Value}{Q:Value->Shared->Prop}(hz:IsZip s.heap z TI TO f0)
  (h:∀h',IsEnum h' s.heap.objs.size z 0 .none->(∀b o,s.heap.get? b=some o->h'.get? b=some o)->Q (.ref s.heap.objs.size) {s with heap:=h'}):wpAny (model prog w) A (call (.type "enumerate") [.ref z]) Q E s:=by
 refine callType_new F.called_enumerate (by decide) (F.typeCall_enumerate_1 _) (F.newCall_enumerate_1 _) (λobj=>F.args_object_init_2 obj _) F.entry_enumerate_new (aK7 z TI TO f0) ⟨hz,?_⟩
 have he:IsEnum (s.heap.push {cls:=.type "enumerate",data:=.fields #[.none,.bool false,.ref z,rawInt 0,.none,.none]}) s.heap.objs.size z 0 .none:=Ac1 _ rfl
 exact⟨⟨_,he,rfl⟩,h _ he λb o x=>Aa5 _ x⟩
section
variable {X:Cx}{elts:List Expr}{k:Nat}{ps:Pos}
def iEz (K:PySem.W.Frag)(ta:TA):TI:=λσ H R=>ta σ H λvs H1=>∃a b xs ys,vs=[.ref a,.ref b]/\SqL K H1 a xs/\SqL K H1 b ys/\R (Iez K a b) H1
theorem bZ1 {l l':Expr}{ta:TA}{p pos p2 pos2:Pos}(K:PySem.W.Frag)(hg:Gl X "zip")(hm:X.mg "zip" = none)(hg2:Gl X "enumerate")(hm2:X.mg "enumerate" = none)(ha:PA X [l,l'] ta)(hK:X.K=K:=by rfl)(hs:starEach [l,l'] X.env=[(false,eval l X.env),(false,eval l' X.env)]:=by rfl)(hs2:starEach [l'] X.env=[(false,eval l' X.env)]:=by rfl)(hs3:starEach [.Call (.Name "zip" p) [l,l'] [] pos] X.env=[(false,eval (.Call (.Name "zip" p) [l,l'] [] pos) X.env)]:=by rfl):PI X (.Tuple elts k ps) (.Call (.Name "enumerate" p2) [.Call (.Name "zip" p) [l,l'] [] pos] [] pos2) (iEz K ta):=by
 subst hK;refine⟨?_⟩;intro pins s σ H R I h;refine Call_ (j4 I hg2 hm2 boot_enumerate (PyProof.Rows.callWith_type1 ?_ hs3 rfl));rw[hs3];refine Calls.spliced_cons ?_;refine Call_ (j4 I hg hm boot_zip (PyProof.Rows.callWith_type1 (thn (ha pos pins s σ H _ I h) λus s1 ⟨vs,H1,I1,r1,q1⟩=>?_) (by rw[hs,hs2]) (by rw[hs2];rfl)))
 obtain ⟨a,b,xs,ys,e,hq,hq',q⟩:=q1;subst e;cases r1 with
 | cons r rr=>
  cases rr with
  | cons r' rr=>
   cases rr
   cases r
   cases r'
   obtain ⟨its,_,pl,_⟩:=I1.list hq;obtain ⟨its',_,pl',_⟩:=I1.list hq';have la:a<s1.heap.objs.size:=by obtain ⟨o,e,_⟩:=pl.isList;exact Ab2 e
   have lb:b<s1.heap.objs.size:=by obtain ⟨o,e,_⟩:=pl'.isList;exact Ab2 e
   refine call_zip_2 pl.isList pl'.isList λh' hz hTI hTO h1 h2 sz kp=>Calls.spliced_nil ?_
   obtain ⟨D,nA,nB,nC⟩:=bN0 _ _ _ la lb;refine aP2 (s:={s1 with heap:=h'}) hz λh2' he kp2=>wpAny_pyIter_enum he ?_
   have en:(h'.objs.size:Nat)∉([s1.heap.objs.size+4,s1.heap.objs.size+2,s1.heap.objs.size+3,s1.heap.objs.size,s1.heap.objs.size+1]:List Nat):=by
    rw[sz];simp only[Aa1,Ac0,or_false,not_or];omega
   refine⟨_,_,_,_,H1,rfl,I1.kept (t':=s1.toks) λb o e=>kp2 b o (kp b o e),bK5 a b _ _ _ _ _ _ D en,⟨⟨_,he⟩,⟨_,_,kp2 _ _ hz,.inl rfl⟩,kp2 _ _ hTI,⟨_,_,kp2 _ _ hTO⟩,h1.at λo e=>kp2 _ o e,h2.at λo e=>kp2 _ o e⟩,λc hc=>?_,q⟩
   have:s1.heap.objs.size<=c:=by
    rcases Aa1.mp hc with rfl | hc
    ·show s1.heap.objs.size<=h'.objs.size
     rw[sz];exact Nat.le_add_right _ _
    ·exact nC c hc
   exact I1.fpOk this (I1.hok.fresh this)
end
end L2
namespace LV
open PySem PySem.Spec PyProof.Rows L2
section
variable {K:PySem.W.Frag}{ρ:List Sl}{m:Bool}{t ta tb:TE}{d d':PyData}{ds es:List PyData}
theorem cA3 {Z:Hp}{a b:Addr}{xs ys:List V}(s:SqL K Z a xs)(r:Reps K Z xs ds)(s':SqL K Z b ys)(r':Reps K Z ys es)(hl:ds.length=es.length):Wk K Z (Iez K a b) (enD (zpD ds es)) where
 stop:=λi H h l=>⟨xs,ys,D8 h s,D8 h s',by rw[r.length,<- aI9 hl];rw[l0]at l;exact l⟩
 go:=λi H d h e=>by
  obtain ⟨z,e,_⟩:=aB6 e;obtain ⟨x,y,e1,e2,_⟩:=aG2 e;obtain ⟨v,h1,_⟩:=r.get' e1;obtain ⟨u,h2,_⟩:=r'.get' e2;exact⟨xs,ys,v,u,D8 h s,h1,D8 h s',h2⟩
 yld:=λi H d x H' h e y=>by
  obtain ⟨z,e',rfl⟩:=aB6 e;obtain ⟨p,q,e1,e2,rfl⟩:=aG2 e';obtain ⟨T,U,v,u,rfl,hT,hU,rfl,y1,y2⟩:=y;obtain ⟨d1,f1,f2⟩:=r.get (y1 xs (D8 h s));obtain ⟨d2,f3,f4⟩:=r'.get (y2 ys (D8 h s'));rw[e1]at f1;cases f1;rw[e2]at f3;cases f3;have g1:=F4 (o:=.tup [v,u]) hT;have g2:=F4 (o:=.tup [.int (i:Int),.ref T]) hU;have g:=L2.Same.tr g1 g2;have hU1:H U=none:=by
   cases hh:H U with
   | none=>rfl
   | some o=>rw[g1 U o hh]at hU;cases hU
  refine⟨g,λS hS=>?_⟩
  have hm:Same Z (hid S (upd (upd H T (.tup [v,u])) U (.tup [.int (i:Int),.ref T]))):=λb o q=>hid_some.mpr ⟨(λz=>by rw[(hS b z).1]at q;cases q),g b o (h b o q)⟩
  have TU:T≠U:=λz=>by rw[<- z,C7]at hU;cases hU
  refine .tup (SqT.of (hid_some.mpr ⟨λz=>(hS U z).2 hU1,C7⟩)) (.cons (.int _) (.cons (.tup (SqT.of (hid_some.mpr ⟨λz=>(hS T z).2 hT,by rw[B2 TU];exact C7⟩)) (.cons (f2.mono hm) (.cons (f4.mono hm) .nil))) .nil))
theorem cE3 {t:TA}(h:A K m t ρ [.list ds,.list es])(hl:ds.length=es.length):I K m (iEz K t) ρ (enD (zpD ds es)):=λS B σ H o J R q=>h S B σ H o J _ λvs H1 s1 r=>by
 cases r with
 | cons a b=>
  cases b with
  | cons a' b=>
   cases b
   cases a with
   | lst s r=>
    cases a' with
    | lst s' r'=>exact⟨_,_,_,_,rfl,D8 u4 s,D8 u4 s',q _ H1 s1 (cA3 s r s' r' hl)⟩
end
def cS (w:List Bool):List Nat:=w.map λb=>if b=true then 117 else 100
theorem bB8 (w:List Bool):sb w=tx (cS w):=rfl
theorem cC5 (w:List Bool):∀c∈cS w,c<128:=λc hc=>by
 obtain ⟨b,_,rfl⟩:=Aa7.mp hc;cases b <;> decide
def sgB (w:List Bool):List PyData:=w.map λb=>PyData.str (sb [b])
theorem bW4 (w:List Bool):sgD (cS w)=sgB w:=by
 unfold sgD cS sgB;rw[Ad3];exact List.map_congr_left λb _=>rfl
section
variable {K:PySem.W.Frag}{ρ:List Sl}{m:Bool}{ta tb:TE}{t:TA}
theorem bL5 {w:List Bool}(h:A K m t ρ [.str (sb w)]):I K m (aQ4 t) ρ (enD (sgB w)):=by
 rw[<- bW4];exact bJ3 h (cC5 w)
theorem aV9 {i j:Str}(ha:E K false ta ρ (.str i))(hb:E K false tb ρ (.str j)):E K m (tOp rEq ta tb) ρ (.bool (decide (i=j))):=aO6 false false ha hb λS H x y Q _ rx ry q=>by
 cases rx;cases ry
 refine⟨rfl,?_⟩;rw[show decide (V.str i=V.str j)=decide (i=j) by rw[Bool.eq_iff_iff];simp]
 exact q _ H (L2.Same.rf _) (.bl _)
theorem bU0 {z:Str}(ha:A K false t ρ [.str z])(hz:z.length<=100000):E K m (tCB (λxs H Q=>∃z,xs=[.str z]/\z.length<=sizeLine/\Q (.int z.length) H) t) ρ (.int z.length):=bR7 ha λH vs Q r q=>by
 cases r with
 | cons a b=>
  cases a;cases b
  exact⟨z,rfl,by unfold sizeLine;omega,q _ λH=>.int _⟩
theorem bO1 {w:List Bool}{k:Nat}{th:TO}(ha:E K false ta ρ (.str (sb w)))(hh:O K th ρ (some (k:Int)))(hw:w.length<=10000)(hk:k<=w.length):E K m (tSl bM3 ta m7 th) ρ (.str (sb (w.take k))):=by
 have h:=bY2 (m:=m) (z:=cS w) (a:=0) (b:=k) (tl:=m7) ha bW9 hh (by simpa[cS]using hw) (Nat.zero_le _) (by simpa[cS]using hk) (.inl ⟨rfl,rfl⟩) (.inr rfl)
 have e:(((cS w).drop 0).take (k-0))=cS (w.take k):=by simp[cS,List.map_take]
 rw[e]at h;exact h
end
end LV
set_option maxHeartbeats 1000000
namespace K47
open PySem L2 LV PyProof.Rows
theorem y7:C2 ["row"] ["row"] (A9 Q8):=⟨rfl,rfl,rfl,by decide +kernel,rfl,by decide +kernel,by decide +kernel⟩
theorem sc_first_over:C2 ["first", "second", "i", "ahead"] ["first", "second"] (A9 V0):=⟨rfl,rfl,rfl,by decide +kernel,rfl,by decide +kernel,by decide +kernel⟩
theorem sc_all_rows:C2 ["m", "rows", "step", "up", "down"] ["m"] (A9 i8):=⟨rfl,rfl,rfl,by decide +kernel,rfl,by decide +kernel,by decide +kernel⟩
theorem aC2:C2 ["_law_row"] ["_law_row"] (A9 V3):=⟨rfl,rfl,rfl,by decide +kernel,rfl,by decide +kernel,by decide +kernel⟩
theorem sc__law_all_rows:C2 ["_law_m", "_law_found", "_law_k", "_law_longer", "_law_row"] ["_law_m"] (A9 M4):=⟨rfl,rfl,rfl,by decide +kernel,rfl,by decide +kernel,by decide +kernel⟩
theorem E8 {K:PySem.W.Frag}{t:TE}{ρ:List Sl}{b b':Bool}(h:LV.E K false t ρ (.bool b))(e:b=b'):LV.T K (aW2 t) ρ b':=e▸H9 h
def oD:Option Nat->PyData
 | none=>.none
 | some k=>.int (k:Int)
def ahd:Nat->List Bool->List Nat
 | _,[]=>[]
 | n,true::w=>n::ahd n w
 | n,false::w=>ahd (n+1) w
def fAh (w:List Bool):PyData->Option PyData
 | .tuple [.int k,.str s]=>if s=sb [true] then some (.int ((w.take k.toNat).count false:Nat)) else none
 | _=>none
theorem aW1 (w:List Bool):(enD (sgB w)).filterMap (fAh w)=nI (ahd 0 w):=by
 have key:∀(v u:List Bool),w=u++v->((sgB v).mapIdx λi d=>PyData.tuple [.int ((i+u.length:Nat):Int),d]).filterMap (fAh w)=nI (ahd (u.count false) v):=λv=>by
  induction v with
  | nil=>intro u _;rfl
  | cons b v ih=>
   intro u e;have ih:=ih (u++[b]) (by rw[e];simp)
   have e1:((sgB (b::v)).mapIdx λi d=>PyData.tuple [.int ((i+u.length:Nat):Int),d])=PyData.tuple [.int ((0+u.length:Nat):Int),.str (sb [b])]::((sgB v).mapIdx λi d=>PyData.tuple [.int ((i+(u++[b]).length:Nat):Int),d]):=by
    show List.mapIdx _ (PyData.str (sb [b])::sgB v)=_
    rw[List.mapIdx_cons]
    congr 1
    refine congrArg (λf=>List.mapIdx f (sgB v)) ?_
    funext i d
    simp only[Ab5,List.length_singleton];rw[show i+1+u.length=i+(u.length+1) by omega]
   rw[e1,List.filterMap_cons];have et:w.take ((0+u.length:Nat):Int).toNat=u:=by rw[e,show((0+u.length:Nat):Int).toNat=u.length by omega];simp
   cases b
   ·have:fAh w (.tuple [.int ((0+u.length:Nat):Int),.str (sb [false])])=none:=by
     show(if sb [false]=sb [true] then some (PyData.int ((w.take ((0+u.length:Nat):Int).toNat).count false:Nat)) else none)=none
     exact if_neg (by decide)
    rw[this,ih]
    simp[ahd,List.count_append]
   ·have:fAh w (.tuple [.int ((0+u.length:Nat):Int),.str (sb [true])])=some (.int (u.count false:Nat)):=by
     show(if sb [true]=sb [true] then some (PyData.int ((w.take ((0+u.length:Nat):Int).toNat).count false:Nat)) else none)=_
     rw[if_pos rfl,et]
    rw[this,ih]
    simp[ahd,List.count_append,nI]
 have:=key w [] rfl
 simpa[enD]using this
def cC1 (ds es:List PyData):Prop:=∃w:List Bool,w.length<=1000/\ds=[.str (sb w)]/\es=nI (ahd 0 w)
def fOv:List Nat->List Nat->Nat->Option Nat
 | a::l,b::m,i=>if a<b then some i else fOv l m (i+1)
 | _,_,_=>none
def bP7 (ds:List PyData)(d:PyData):Prop:=∃w1 w2:List Bool,w1.length<=1000/\w2.length<=1000/\(ahd 0 w1).length=(ahd 0 w2).length/\ds=[.str (sb w1),.str (sb w2)]/\d=oD (fOv (ahd 0 w1) (ahd 0 w2) 0)
theorem o9:∀(w:List Bool) (n:Nat),(ahd n w).length=w.count true
 | [],_=>rfl
 | true::w,n=>by simp[ahd,o9 w n]
 | false::w,n=>by simp[ahd,o9 w (n+1)]
section
variable {K:PySem.W.Frag}{ρ:List Sl}{m:Bool}{ta tb:TE}
theorem y9 {l:List Nat}{c:Nat}(ha:LV.E K false ta ρ (.str (tx l)))(hb:LV.E K false tb ρ (.str (tx [c]))):LV.E K m (tBM K "str" Y9 ta (G5 tb i5)) ρ (.int (l.count c:Nat)):=LV.E.bor (LV.E.imm (m:=false) λS B σ H o I Q q=>ha S B σ H o I _ λv H1 s1 r=>by
 cases r
 refine⟨rfl,?_⟩;refine hb S B σ H1 o (I.grow s1) _ λu H2 s2 r2=>?_
 cases r2
 refine⟨_,c,rfl,rfl,?_⟩;exact q _ H2 (L2.Same.tr s1 s2) (.int _))
end
def fU (w:List Bool):PyData->Option PyData
 | .int k=>fAh w (.tuple [.int k,.str (sb [w.getD k.toNat false])])
 | _=>none
theorem bS3 (w:List Bool):(L5 0 w.length).filterMap (fU w)=nI (ahd 0 w):=by
 rw[<- aW1];have e:enD (sgB w)=(List.range w.length).map λ(i:Nat)=>PyData.tuple [.int (i:Int),.str (sb [w.getD i false])]:=by
  refine List.ext_getElem? λi=>?_
  unfold enD sgB;rw[List.getElem?_mapIdx,Aa8,Aa8];by_cases h:i<w.length
  ·rw[List.getElem?_range h,Aa2 h];show some (PyData.tuple [.int (i:Int),.str (sb [w[i]])])=some (PyData.tuple [.int (i:Int),.str (sb [w.getD i false])]);rw[Ab8,Aa2 h];rfl
  ·rw[Ac9 (by omega),Ac9 (by simp;omega)];rfl
 rw[e];unfold L5;rw[List.filterMap_map,List.filterMap_map]
 congr 1
 funext i
 show fAh w (.tuple [.int (0+(i:Int)),.str (sb [w.getD (0+(i:Int)).toNat false])])=fAh w (.tuple [.int (i:Int),.str (sb [w.getD i false])])
 rw[Int.zero_add,Ac3]
theorem bI0 {K:PySem.W.Frag}(w:List Bool)(hw:w.length<=1000):∀d∈L5 0 w.length,LV.aL5 K true [.no,.val (.str (sb w))] (R3 0) (aW2 (tOp rEq (tOp (rIx K) (K8 1) (K8 0)) (tC (.str (Str.ofString "u"))))) (tBM K "str" Y9 (tSl bM3 (K8 1) m7 (bD0 (K8 0))) (G5 (tC (.str (Str.ofString "d"))) i5)) d (fU w d):=λd hd=>by
 obtain ⟨j,hj⟩:=List.mem_iff_getElem?.mp hd;obtain ⟨rfl,hj2⟩:=c8 hj;refine⟨_,E4,?_⟩;have hb:w[j]? = some (w.getD j false):=by rw[Ab8,Aa2 hj2];rfl
 have hc:atI (cS w) (j:Int)=some (if w.getD j false=true then 117 else 100):=W0 j rfl (by unfold cS;rw[Aa8,hb];rfl)
 have ix:LV.E K false (tOp (rIx K) (K8 1) (K8 0)) [.val (.int (j:Int)),.val (.str (sb w))] (.str (tx [if w.getD j false=true then 117 else 100])):=bZ5 (z:=cS w) (A1 rfl) (A1 rfl) (by simp[cS];omega) hc
 show match fAh w (.tuple [.int (j:Int),.str (sb [w.getD ((j:Int)).toNat false])]) with | none=>_ | some y=>_
 rw[Ac3];cases hbb:w.getD j false
 ·rw[hbb]at ix;rw[show fAh w (.tuple [.int (j:Int),.str (sb [false])])=none from by
   show(if sb [false]=sb [true] then some (PyData.int ((w.take ((j:Int)).toNat).count false:Nat)) else none)=none
   exact if_neg (by decide)]
  exact E8 (aV9 ix Z7) (by decide)
 ·rw[hbb]at ix;rw[show fAh w (.tuple [.int (j:Int),.str (sb [true])])=some (.int ((w.take j).count false:Nat)) from by
   show(if sb [true]=sb [true] then some (PyData.int ((w.take ((j:Int)).toNat).count false:Nat)) else none)=_
   rw[if_pos rfl,Ac3]]
  exact⟨E8 (aV9 ix Z7) (by decide),bI3 (bO1 (w:=w) (A1 rfl) (bD3 (A1 rfl)) (by omega) (by omega)) (bJ8 [false] rfl)⟩
def cC6 (ds es:List PyData):Prop:=∃w:List Bool,w.length<=1000/\ds=[.str (sb w)]/\es=nI (ahd 0 w)
def sbD (w:List Bool):PyData:=.str (sb w)
def Z2 (x:Str):List Bool:=x.cps.toList.map (· == 117)
theorem aJ2 (w:List Bool):Z2 (sb w)=w:=by
 unfold Z2 sb;rw[Ad3];refine(List.map_congr_left (g:=id) λb _=>?_).trans (List.map_id w)
 cases b <;> rfl
theorem aK6 (w:List Bool):(cS w).count 117=w.count true:=by
 induction w with
 | nil=>rfl
 | cons b w ih=>
  have e:cS (b::w)=(if b=true then 117 else 100)::cS w:=rfl
  rw[e,List.count_cons,List.count_cons,ih];cases b <;> rfl
theorem bE1 (w:List Bool):(cS w).count 100=w.count false:=by
 induction w with
 | nil=>rfl
 | cons b w ih=>
  have e:cS (b::w)=(if b=true then 117 else 100)::cS w:=rfl
  rw[e,List.count_cons,List.count_cons,ih];cases b <;> rfl
def arW (m:Nat):Nat->List (List Bool)
 | 0=>[[]]
 | j+1=>((arW m j).filter λw=>decide (w.count true<m)).map (· ++ [true])++((arW m j).filter λw=>decide (w.count false<w.count true)).map (· ++ [false])
theorem bP4:∀m,m<5->∀j,j<9->(arW m j).length<=100/\∀w∈arW m j,w.length<=8:=by decide +kernel
def fUp (m:Nat):PyData->Option PyData
 | .str x=>if(Z2 x).count true<m then some (sbD (Z2 x++[true])) else none
 | _=>none
def fDn:PyData->Option PyData
 | .str x=>if(Z2 x).count false<(Z2 x).count true then some (sbD (Z2 x++[false])) else none
 | _=>none
theorem bG3 (m:Nat)(w:List Bool):fUp m (sbD w)=if w.count true<m then some (sbD (w++[true])) else none:=by
 show(if(Z2 (sb w)).count true<m then some (sbD (Z2 (sb w)++[true])) else none)=_
 rw[aJ2]
theorem bE8 (w:List Bool):fDn (sbD w)=if w.count false<w.count true then some (sbD (w++[false])) else none:=by
 show(if(Z2 (sb w)).count false<(Z2 (sb w)).count true then some (sbD (Z2 (sb w)++[false])) else none)=_
 rw[aJ2]
theorem bM4 (m:Nat)(L:List (List Bool)):(L.map sbD).filterMap (fUp m)=((L.filter λw=>decide (w.count true<m)).map (· ++ [true])).map sbD:=by
 induction L with
 | nil=>rfl
 | cons w L ih=>
  rw[Ac2,List.filterMap_cons,bG3,List.filter_cons];by_cases h:w.count true<m
  ·rw[if_pos h,if_pos (decide_eq_true h)];dsimp only;rw[ih];rfl
  ·rw[if_neg h,if_neg (by simpa using h)]
   dsimp only
   exact ih
theorem bJ1 (L:List (List Bool)):(L.map sbD).filterMap fDn=((L.filter λw=>decide (w.count false<w.count true)).map (· ++ [false])).map sbD:=by
 induction L with
 | nil=>rfl
 | cons w L ih=>
  rw[Ac2,List.filterMap_cons,bE8,List.filter_cons];by_cases h:w.count false<w.count true
  ·rw[if_pos h,if_pos (decide_eq_true h)];dsimp only;rw[ih];rfl
  ·rw[if_neg h,if_neg (by simpa using h)]
   dsimp only
   exact ih
theorem bQ9 (w:List Bool):tx (cS w++[117])=sb (w++[true]):=by rw[bB8];unfold cS;rw[Ac7];rfl
theorem bQ8 (w:List Bool):tx (cS w++[100])=sb (w++[false]):=by rw[bB8];unfold cS;rw[Ac7];rfl
theorem aA9 (w:List Bool):(cS w).length=w.length:=by unfold cS;simp
theorem aK4 (L:List (List Bool)):W8 (L.map sbD)=true:=j9 (λ_=>rfl) L
def cB8 (ds es:List PyData):Prop:=∃m:Nat,m<5/\ds=[.int (m:Int)]/\es=(arW m (2*m)).map sbD
def lrS (m:Nat):List (List Bool)->List (List Bool)
 | []=>[]
 | w::L=>(if w.count true>w.count false then [w++[false]] else [])++(if w.count true<m then [w++[true]] else [])++lrS m L
def lrW (m:Nat):Nat->List (List Bool)
 | 0=>[[]]
 | j+1=>lrS m (lrW m j)
theorem bQ6:∀m,m<5->∀j,j<9->(lrW m j).length<=100/\∀w∈lrW m j,w.length<=8:=by decide +kernel
theorem aS3 (m:Nat)(L M:List (List Bool)):lrS m (L++M)=lrS m L++lrS m M:=by
 induction L with
 | nil=>rfl
 | cons w L ih=>show _++_++lrS m (L++M)=_;rw[ih];simp[lrS]
theorem bK4 (m:Nat)(L:List (List Bool)):(lrS m L).length<=2*L.length:=by
 induction L with
 | nil=>exact Aa6 _
 | cons w L ih=>
  show((if w.count true>w.count false then [w++[false]] else [])++(if w.count true<m then [w++[true]] else [])++lrS m L).length<=_
  rw[Ab5,Ab5,List.length_cons];split <;> split <;> simp <;> omega
def bY4 (ds es:List PyData):Prop:=∃m:Nat,m<5/\ds=[.int (m:Int)]/\es=(lrW m (2*m)).map sbD
theorem bS0:∀m,m<5->Knw ((lrW m (2*m)).map sb).length (oS ((lrW m (2*m)).map sb)) (List.range ((lrW m (2*m)).map sb).length):=λm hm=>by
 match m,hm with
 | 0,_=>exact .inl ⟨by decide +kernel,rfl⟩
 | 1,_=>exact .inl ⟨by decide +kernel,rfl⟩
 | 2,_=>exact .inr ⟨by decide +kernel,by decide +kernel,by simp,λi hi=>Ab4.mp hi,by decide +kernel⟩
 | 3,_=>exact .inr ⟨by decide +kernel,by decide +kernel,by simp,λi hi=>Ab4.mp hi,by decide +kernel⟩
 | 4,_=>exact .inr ⟨by decide +kernel,by decide +kernel,by simp,λi hi=>Ab4.mp hi,by decide +kernel⟩
theorem aZ1 (L:List Str):((List.range L.length).map λi=>L.getD i ⟨#[]⟩)=L:=by
 refine List.ext_getElem (by simp) λi h1 h2=>?_
 simp[List.getD,h2]
section
variable {P:Program}{w:World}{K:PySem.W.Frag}{mg:Str->Option Value}{base:Heap}{a:Ad}
theorem cB2 (T:Tx K mg a):D6 P w K mg base CX0 1 a.Q3 a.Q7 ["row"] (spL K cC1):=by
 refine T.Q5.ok y7 (bF0 λds d ⟨_,_,e,_⟩=>by rw[e];rfl) (λcdv A outer s H vs Q E hr h=>?_)
 obtain ⟨ds,S,es,hS,r,⟨w,hw,rfl,rfl⟩,q⟩:=h;refine⟨_,(A8 (C6 (x9 (T:=["k", "sign"]) (N':=["k", "sign", "row"]) (is:=[0]) rfl (.of rfl rfl rfl (by exact⟨rfl,trivial⟩) rfl rfl rfl (by exact⟨⟨_,rfl,by first | exact .inl rfl | exact .inr rfl,by first | exact .inl rfl | exact .inr rfl⟩,trivial⟩)) (bH2 rfl T.P7 (A0 (pv 0) A2)) (cE5 (by decide) (by decide)) λ_ _ _ _=>⟨(bE7 (n:=2) rfl (m6 (E2 (i:=0) (by decide +kernel:(["k", "sign", "row"]:List Str).Nodup) rfl (Or.inl rfl)) (m6 (E2 (i:=1) (by decide +kernel:(["k", "sign", "row"]:List Str).Nodup) rfl (Or.inl rfl)) aT8))),(R4 (C9 aE1 (pv 1) E5 (D9 _))),(aA6 K PySem.F.plainAttrs_str PySem.F.slot_str_count PySem.F.type_str_count J0 (aM5 bD5 (pv 2) aU3 (aV5 (pv 0))) (A0 E5 A2))⟩))),aB2 hS r ?_ q⟩
 rw[<- aW1];refine aJ5 (Z0 (m:=true) (fAh w) (bL5 (w:=w) (A3 (A1 rfl) B0)) (by rw[l0];simp[sgB];unfold PySem.sizeLine;omega) λd hd=>?_) rfl
 obtain ⟨j,hj⟩:=List.mem_iff_getElem?.mp hd;obtain ⟨y,hy,rfl⟩:=aB6 hj;unfold sgB at hy;rw[Aa8]at hy;obtain ⟨b,hb,rfl⟩:=Option.map_eq_some_iff.mp hy;have hjl:j<w.length:=(Aa9.mp hb).1;refine⟨_,bP5 (x0 E4 (x0 E4 bE0)),?_⟩;cases b
 ·rw[show fAh w (.tuple [.int (j:Int),.str (sb [false])])=none from by
   show(if sb [false]=sb [true] then some (PyData.int ((w.take ((j:Int)).toNat).count false:Nat)) else none)=none
   exact if_neg (by decide)]
  have e:=aV9 (K:=K) (m:=false) (ρ:=[.val (.int (j:Int)),.val (.str (sb [false])),cap (.val (.str (sb w)))]) (ta:=K8 1) (i:=sb [false]) (j:=Str.ofString "u") (A1 rfl) Z7
  rw[show decide (sb [false]=Str.ofString "u")=false by decide]at e
  exact H9 e
 ·rw[show fAh w (.tuple [.int (j:Int),.str (sb [true])])=some (.int ((w.take j).count false:Nat)) from by
   show(if sb [true]=sb [true] then some (PyData.int ((w.take ((j:Int)).toNat).count false:Nat)) else none)=_
   rw[if_pos rfl,Ac3]]
  have e:=aV9 (K:=K) (m:=false) (ρ:=[.val (.int (j:Int)),.val (.str (sb [true])),cap (.val (.str (sb w)))]) (ta:=K8 1) (i:=sb [true]) (j:=Str.ofString "u") (A1 rfl) Z7
  rw[show decide (sb [true]=Str.ofString "u")=true by decide]at e
  exact⟨H9 e,bI3 (bO1 (w:=w) (A1 rfl) (bD3 (A1 rfl)) (by omega) (by omega)) (bJ8 [false] rfl)⟩
theorem cB0 (T:Tx K mg a):D6 P w K mg base CX0 2 a.U8 a.S7 ["first", "second"] (spV K bP7):=by
 have G_downs_ahead:D6 P w K mg base CX0 1 _ _ _ _:=cB2 T
 refine T.l8.ok sc_first_over (aA5 λds d ⟨_,_,_,_,_,e,_⟩=>by rw[e];rfl) (λcdv A outer s H vs Q E hr h=>?_)
 obtain ⟨ds,S,d,hS,r,⟨w1,w2,l1,l2,le,rfl,rfl⟩,q⟩:=h;refine⟨_,(A5 (Q6 PassesOwn.never rfl (bZ1 K rfl T.bE4 rfl T.P7 (A0 (B8 G_downs_ahead (hr.mono (by decide)) rfl T.Z4 T.Q5.kp T.Z3 .nil G4 (A0 (pv 0) A2)) (A0 (B8 G_downs_ahead (hr.mono (by decide)) rfl T.Z4 T.Q5.kp T.Z3 .nil G4 (A0 (pv 1) A2)) A2))) (bE7 (n:=2) rfl (m6 (E2 (i:=2) sc_first_over.nd rfl (Or.inl rfl)) (m6 (E2 (i:=3) sc_first_over.nd rfl (Or.inl rfl)) aT8))) (A8 (O6 (C9 aS5 (G0 (ixK K) (pv 3) A7 (λ_ _=>rfl)) (G0 (ixK K) (pv 3) A7 (λ_ _=>rfl)) (D9 _)) (A8 (C6 (pv 2))) E7)))
   (A8 (C6 bH0))),Q9 hS r ?_ q⟩
 generalize hrr:fOv (ahd 0 w1) (ahd 0 w2) 0=rr;refine B6 (a4 (cE3 (ds:=nI (ahd 0 w1)) (es:=nI (ahd 0 w2)) (A3 (EF.e' (U7 (A3 (A1 rfl) B0) ⟨w1,l1,rfl,rfl⟩)) (A3 (EF.e' (U7 (A3 (A1 rfl) B0) ⟨w2,l2,rfl,rfl⟩)) B0)) (by rw[s9,s9];exact le)) (λj ρ=>∃x2 x3,fOv ((ahd 0 w1).drop j) ((ahd 0 w2).drop j) j=rr/\x2.nb=true/\x3.nb=true/\ρ=[.val (.str (sb w1)),.val (.str (sb w2)),x2,x3]) ⟨.no,.no,hrr,rfl,rfl,rfl⟩ ?_ ?_)
 ·rintro j d _ hj ⟨x2,x3,ef,b2,b3,rfl⟩;obtain ⟨y,hy,rfl⟩:=aB6 hj;obtain ⟨p,q',e1,e2,rfl⟩:=aG2 hy;unfold nI at e1 e2;rw[Aa8]at e1 e2;obtain ⟨p,h1,rfl⟩:=Option.map_eq_some_iff.mp e1;obtain ⟨q',h2,rfl⟩:=Option.map_eq_some_iff.mp e2;obtain ⟨j1,c1⟩:=Aa9.mp h1;obtain ⟨j2,c2⟩:=Aa9.mp h2;rw[List.drop_eq_getElem_cons j1,List.drop_eq_getElem_cons j2,c1,c2]at ef;have ef:(if p<q' then some j else fOv ((ahd 0 w1).drop (j+1)) ((ahd 0 w2).drop (j+1)) (j+1))=rr:=ef;refine⟨_,bP5 (x0 E4 (x0 E4 bE0)),?_⟩;refine c0 (b:=decide (p<q')) (E8 (y3 (h8 (ds:=[.int (p:Nat),.int (q':Nat)]) (A1 rfl) B1 rfl rfl) (h8 (ds:=[.int (p:Nat),.int (q':Nat)]) (A1 rfl) B1 rfl rfl)) (decide_eq_decide.mpr (by omega))) (λh=>?_) (λh=>?_)
  ·rw[if_pos (of_decide_eq_true h)]at ef;exact K5 (d:=.int (j:Int)) (A1 rfl) (by rw[<- ef];rfl)
  ·rw[if_neg (of_decide_eq_false h)]at ef;exact G9 ⟨_,_,ef,rfl,rfl,rfl⟩
 rintro _ ⟨x2,x3,ef,b2,b3,rfl⟩;have el:(enD (zpD (nI (ahd 0 w1)) (nI (ahd 0 w2)))).length=(ahd 0 w1).length:=by rw[l0,aI9 (by rw[s9,s9];exact le),s9]
 rw[el,List.drop_length]at ef;have ef:none=rr:=ef;exact K5 bP8 (by rw[<- ef];rfl)
theorem cD5 (T:Tx K mg a):D6 P w K mg base CX0 1 a.T6 a.R9 ["_law_row"] (spL K cC6):=by
 refine T.T5.ok aC2 (bF0 λds d ⟨_,_,e,_⟩=>by rw[e];rfl) (λcdv A outer s H vs Q E hr h=>?_)
 obtain ⟨ds,S,es,hS,r,⟨w,hw,rfl,rfl⟩,q⟩:=h;refine⟨_,(A8 (C6 (x9 (T:=["_law_k"]) (N':=["_law_k", "_law_row"]) (is:=[0]) rfl (.of rfl rfl rfl (by exact⟨rfl,trivial⟩) rfl rfl rfl (by exact⟨⟨_,rfl,by first | exact .inl rfl | exact .inr rfl,by first | exact .inl rfl | exact .inr rfl⟩,trivial⟩)) (K9 rfl T.N4 (A0 (C1 aH9 (by rfl) T.Z5 PySem.boot_len (A0 (pv 0) A2)) A2)) (T9 (by decide)) λ_ _ _ _=>⟨(E2 (i:=0) (by decide +kernel:(["_law_k", "_law_row"]:List Str).Nodup) rfl (Or.inl rfl)),(R4 (C9 aE1 (G0 (ixK K) (pv 1) (pv 0) (λ_ _=>rfl)) E5 (D9 _))),(aA6 K PySem.F.plainAttrs_str PySem.F.slot_str_count PySem.F.type_str_count J0 (aM5 bD5 (pv 1) aU3 (aV5 (pv 0))) (A0 E5 A2))⟩))),aB2 hS r ?_ q⟩
 rw[<- bS3];have el:(sb w).length=w.length:=by rw[bB8,c9,aA9]
 refine aJ5 (Z0 (m:=true) (fU w) (ds:=L5 0 w.length) (by
  have:=j6 (K:=K) (m:=true) (ρ:=sl0 ["_law_row"].length [.str (sb w)]) (j:=(w.length:Int)) (A3 (EI.to (bU0 (z:=sb w) (A3 (A1 (i:=0) rfl) B0) (by rw[el];omega)) (by rw[el])) B0) (by omega) (by omega)
  rw[Ac3]at this;exact this) (by unfold L5;simp;unfold PySem.sizeLine;omega) (bI0 w hw)) rfl
theorem cD7 (T:Tx K mg a):D6 P w K mg base CX0 1 a.i4 a.a7 ["m"] (spL K cB8):=by
 refine T.aB8.ok sc_all_rows (bF0 λds d ⟨_,_,e,_⟩=>by rw[e];rfl) (λcdv A outer s H vs Q E hr h=>?_)
 obtain ⟨ds,S,es,hS,r,⟨m,hm,rfl,rfl⟩,q⟩:=h;refine⟨_,(A5 (D4 (i:=1) sc_all_rows.nd rfl (Or.inl rfl) (M7 (A0 E5 A2)))
   (A5 (Q6 PassesOwn.never rfl (K9 rfl T.N4 (A0 (B4 E9 A7 (pv 0)) A2)) (E2 (i:=2) sc_all_rows.nd rfl (Or.inl rfl)) (A5 (aC0 (i:=3) sc_all_rows.nd rfl rfl (T:=["row"]) (N':=["row", "m"]) (is:=[0]) rfl (.of rfl rfl rfl (by exact⟨rfl,trivial⟩) rfl rfl rfl (by exact⟨⟨_,rfl,by first | exact .inl rfl | exact .inr rfl,by first | exact .inl rfl | exact .inr rfl⟩,trivial⟩)) (R6 (pv 1)) (T9 (by decide)) λ_ _ _ _=>⟨(E2 (i:=0) (by decide +kernel:(["row", "m"]:List Str).Nodup) rfl (Or.inl rfl)),(R4 (C9 aL0 (aA6 K PySem.F.plainAttrs_str PySem.F.slot_str_count PySem.F.type_str_count J0 (pv 0) (A0 E5 A2)) (pv 1) (D9 _))),(B4 V2 (pv 0) E5)⟩)
   (A5 (aC0 (i:=4) sc_all_rows.nd rfl rfl (T:=["row"]) (N':=["row"]) (is:=[]) rfl (.of rfl rfl rfl (by exact trivial) rfl rfl rfl (by exact trivial)) (R6 (pv 1)) (T9 (by decide)) λ_ _ _ _=>⟨(E2 (i:=0) (by decide +kernel:(["row"]:List Str).Nodup) rfl (Or.inl rfl)),(R4 (C9 aL0 (aA6 K PySem.F.plainAttrs_str PySem.F.slot_str_count PySem.F.type_str_count J0 (pv 0) (A0 E5 A2)) (aA6 K PySem.F.plainAttrs_str PySem.F.slot_str_count PySem.F.type_str_count J0 (pv 0) (A0 E5 A2)) (D9 _))),(B4 V2 (pv 0) E5)⟩)
   (A8 (D4 (i:=1) sc_all_rows.nd rfl (Or.inl rfl) (B4 (bJ4 K) (pv 3) (pv 4)))))))
   (A8 (C6 (pv 1))))),aB2 hS r ?_ q⟩
 refine B6 (F6 (ds:=(arW m 0).map sbD) (M6 (A3 (bJ8 [] rfl) B0) (show(1:Nat)<=PySem.sizeLine by decide)) ?_ (show 1<5 by decide))
 refine B6 (a4 (j6 (j:=((2*m:Nat):Int)) (A3 (EI.to (e_i B1 (A1 (i:=0) rfl) (aI6 (by decide) (by omega))) (by omega)) B0) (by omega) (by omega)) (λj ρ=>∃x2 x3 x4,x2.nb=true/\x3.nb=true/\x4.nb=true/\ρ=[.val (.int (m:Int)),.own ((arW m j).map sbD),x2,x3,x4]) ⟨.no,.no,.no,rfl,rfl,rfl,rfl⟩ ?_ ?_)
 ·rintro j d _ hj ⟨x2,x3,x4,b2,b3,b4,rfl⟩;obtain ⟨rfl,hj2⟩:=c8 hj;rw[Ac3]at hj2;obtain ⟨l1,l2⟩:=bP4 m hm j (by omega)
  refine⟨_,E4,?_⟩;refine Z8 (i:=1) rfl ?_;show W K _ [.val (.int (m:Int)),.val (.list ((arW m j).map sbD)),.val (.int (j:Int)),x3,x4] _;refine B6 (F6 (EF.to (Z0 (m:=true) (fUp m) (b8 (ds:=(arW m j).map sbD) (A1 (i:=1) rfl)) (by rw[Aa3];unfold PySem.sizeLine;omega) λd hd=>?_) (bM4 m _)) ?_ (show 3<5 by decide))
  ·obtain ⟨w',hw',rfl⟩:=Aa7.mp hd;have hl':=l2 w' hw';refine⟨_,E4,?_⟩;have ct:=y3 (K:=K) (m:=false) (ρ:=[.val (sbD w'),cap (.val (.int (m:Int)))]) (g:=λi j=>decide (i<j)) (y9 (l:=cS w') (c:=117) (A1 (i:=0) rfl) (V5 (x:=Str.ofString "u") (by decide))) (A1 (i:=1) rfl)
   rw[bG3];by_cases h:w'.count true<m
   ·rw[if_pos h];refine⟨E8 ct (decide_eq_true (by rw[aK6];omega)),?_⟩
    show LV.E K true _ _ (.str (sb (w'++[true])))
    rw[<- bQ9];exact aH1 (a:=cS w') (b:=[117]) (A1 (i:=0) rfl) (V5 (by decide)) (by rw[aA9];simp;omega)
   ·rw[if_neg h];exact E8 ct (decide_eq_false (by rw[aK6];omega))
  refine B6 (F6 (EF.to (Z0 (m:=true) fDn (b8 (ds:=(arW m j).map sbD) (A1 (i:=1) rfl)) (by rw[Aa3];unfold PySem.sizeLine;omega) λd hd=>?_) (bJ1 _)) ?_ (show 4<5 by decide))
  ·obtain ⟨w',hw',rfl⟩:=Aa7.mp hd;have hl':=l2 w' hw';refine⟨_,E4,?_⟩;have ct:=y3 (K:=K) (m:=false) (ρ:=[.val (sbD w')]) (g:=λi j=>decide (i<j)) (y9 (l:=cS w') (c:=100) (A1 (i:=0) rfl) (V5 (x:=Str.ofString "d") (by decide))) (y9 (l:=cS w') (c:=117) (A1 (i:=0) rfl) (V5 (x:=Str.ofString "u") (by decide)))
   rw[bE8];by_cases h:w'.count false<w'.count true
   ·rw[if_pos h];refine⟨E8 ct (decide_eq_true (by rw[aK6,bE1];omega)),?_⟩
    show LV.E K true _ _ (.str (sb (w'++[false])))
    rw[<- bQ8];exact aH1 (a:=cS w') (b:=[100]) (A1 (i:=0) rfl) (V5 (by decide)) (by rw[aA9];simp;omega)
   ·rw[if_neg h];exact E8 ct (decide_eq_false (by rw[aK6,bE1];omega))
  have f1:=List.length_filter_le (λw:List Bool=>decide (w.count true<m)) (arW m j)
  have f2:=List.length_filter_le (λw:List Bool=>decide (w.count false<w.count true)) (arW m j)
  refine F6 (ds:=(arW m (j+1)).map sbD) (EF.to (bU3 (X8 (i:=3) rfl) (X8 (i:=4) rfl) (aK4 _) (aK4 _) (by rw[Aa3,Aa3,Aa3,Aa3];unfold PySem.sizeLine;omega)) (by rw[<- Ac7];rfl)) ⟨.val (.int (j:Int)),.own _,.own _,rfl,rfl,rfl,rfl⟩ (show 1<5 by decide)
 ·rintro _ ⟨x2,x3,x4,b2,b3,b4,rfl⟩;have el:(L5 0 (((2*m:Nat):Int)).toNat).length=2*m:=by unfold L5;simp;omega
  rw[el];exact bB1 (i:=1) rfl rfl
theorem bZ3 (T:Tx K mg a):D6 P w K mg base CX0 1 a.M8 a.L9 ["_law_m"] (spL K bY4):=by
 refine T.W6.ok sc__law_all_rows (bF0 λds d ⟨_,_,e,_⟩=>by rw[e];rfl) (λcdv A outer s H vs Q E hr h=>?_)
 obtain ⟨ds,S,es,hS,r,⟨m,hm,rfl,rfl⟩,q⟩:=h;refine⟨_,(A5 (D4 (i:=1) sc__law_all_rows.nd rfl (Or.inl rfl) (M7 (A0 E5 A2)))
   (A5 (Q6 PassesOwn.never rfl (K9 rfl T.N4 (A0 (B4 E9 A7 (pv 0)) A2)) (E2 (i:=2) sc__law_all_rows.nd rfl (Or.inl rfl)) (A5 (D4 (i:=3) sc__law_all_rows.nd rfl (Or.inl rfl) (M7 A2))
   (A5 (Q6 PassesOwn.never rfl (R6 (pv 1)) (E2 (i:=4) sc__law_all_rows.nd rfl (Or.inl rfl)) (A5 (O6 (C9 aS5 (X2 PySem.F.plainAttrs_str PySem.F.slot_str_count PySem.F.type_str_count J0 (pv 4) (A0 E5 A2)) (X2 PySem.F.plainAttrs_str PySem.F.slot_str_count PySem.F.type_str_count J0 (pv 4) (A0 E5 A2)) (D9 _)) (A8 (N2 (X2 Ab0 PySem.F.slot_list_append PySem.F.type_list_append N6 (pv 3) (A0 (B4 V2 (pv 4) E5) A2)))) E7)
   (A8 (O6 (C9 aL0 (X2 PySem.F.plainAttrs_str PySem.F.slot_str_count PySem.F.type_str_count J0 (pv 4) (A0 E5 A2)) (pv 0) (D9 _)) (A8 (N2 (X2 Ab0 PySem.F.slot_list_append PySem.F.type_list_append N6 (pv 3) (A0 (B4 V2 (pv 4) E5) A2)))) E7))))
   (A8 (D4 (i:=1) sc__law_all_rows.nd rfl (Or.inl rfl) (pv 3))))))
   (A8 (C6 (C1 (aQ8 K) (by rfl) T.p5 boot_sorted (A0 (pv 1) A2)))))),aB2 hS r ?_ q⟩
 refine B6 (F6 (ds:=(lrW m 0).map sbD) (M6 (A3 (bJ8 [] rfl) B0) (show(1:Nat)<=PySem.sizeLine by decide)) ?_ (show 1<5 by decide))
 refine Z8 (i:=1) rfl ?_;refine B6 (a4 (j6 (j:=((2*m:Nat):Int)) (A3 (EI.to (e_i B1 (A1 (i:=0) rfl) (aI6 (by decide) (by omega))) (by omega)) B0) (by omega) (by omega)) (λj ρ=>∃x2 x3 x4,x2.nb=true/\x3.nb=true/\x4.nb=true/\ρ=[.val (.int (m:Int)),.val (.list ((lrW m j).map sbD)),x2,x3,x4]) ⟨.no,.no,.no,rfl,rfl,rfl,rfl⟩ ?_ ?_)
 ·rintro j d _ hj ⟨x2,x3,x4,b2,b3,b4,rfl⟩;obtain ⟨rfl,hj2⟩:=c8 hj;rw[Ac3]at hj2;obtain ⟨l1,l2⟩:=bQ6 m hm j (by omega)
  refine⟨_,E4,?_⟩;refine B6 (F6 (ds:=[]) (M6 B0) ?_ (show 3<5 by decide))
  refine B6 (a4 (b8 (ds:=(lrW m j).map sbD) (A1 (i:=1) rfl)) (λi ρ=>∃x4,x4.nb=true/\ρ=[.val (.int (m:Int)),.val (.list ((lrW m j).map sbD)),.val (.int (j:Int)),.own ((lrS m ((lrW m j).take i)).map sbD),x4]) ⟨x4,b4,rfl⟩ ?_ ?_)
  ·rintro i d _ hd ⟨x4,b4,rfl⟩;rw[Aa8]at hd;obtain ⟨w',hw',rfl⟩:=Option.map_eq_some_iff.mp hd;have hil:=(Aa9.mp hw').1;have hl':=l2 w' (List.mem_of_getElem? hw');have et:(lrW m j).take (i+1)=(lrW m j).take i++[w']:=by rw[List.take_succ,hw'];rfl
   have hz:=bK4 m ((lrW m j).take i)
   rw[Ac6]at hz;refine⟨_,E4,?_⟩;show W K _ [.val (.int (m:Int)),.val (.list ((lrW m j).map sbD)),.val (.int (j:Int)),.own ((lrS m ((lrW m j).take i)).map sbD),.val (sbD w')] _;have cu:∀{ρ:List Sl},ρ[4]? = some (.val (sbD w'))->LV.E K false (tBM K "str" Y9 (K8 4) (G5 (tC (.str (Str.ofString "u"))) i5)) ρ (.int (w'.count true:Nat)):=λ{ρ} h4=>by rw[<- aK6];exact y9 (l:=cS w') (c:=117) (A1 (i:=4) h4) (V5 (by decide))
   have cd:∀{ρ:List Sl},ρ[4]? = some (.val (sbD w'))->LV.E K false (tBM K "str" Y9 (K8 4) (G5 (tC (.str (Str.ofString "d"))) i5)) ρ (.int (w'.count false:Nat)):=λ{ρ} h4=>by rw[<- bE1];exact y9 (l:=cS w') (c:=100) (A1 (i:=4) h4) (V5 (by decide))
   have eu:∀{ρ:List Sl},ρ[4]? = some (.val (sbD w'))->LV.E K true (tOp (λx y H Q=>∃i j,x=.str i/\y=.str j/\i.length+j.length<=sizeLine/\Q (.str (i++j)) H) (K8 4) (tC (.str (Str.ofString "u")))) ρ (sbD (w'++[true])):=λ{ρ} h4=>by
    show LV.E K true _ _ (.str (sb (w'++[true])))
    rw[<- bQ9];exact aH1 (a:=cS w') (b:=[117]) (A1 (i:=4) h4) (V5 (by decide)) (by rw[aA9];simp;omega)
   have ed:∀{ρ:List Sl},ρ[4]? = some (.val (sbD w'))->LV.E K true (tOp (λx y H Q=>∃i j,x=.str i/\y=.str j/\i.length+j.length<=sizeLine/\Q (.str (i++j)) H) (K8 4) (tC (.str (Str.ofString "d")))) ρ (sbD (w'++[false])):=λ{ρ} h4=>by
    show LV.E K true _ _ (.str (sb (w'++[false])))
    rw[<- bQ8];exact aH1 (a:=cS w') (b:=[100]) (A1 (i:=4) h4) (V5 (by decide)) (by rw[aA9];simp;omega)
   let PJ:List Sl->Prop:=λρ => ρ=[.val (.int (m:Int)),.val (.list ((lrW m j).map sbD)),.val (.int (j:Int)),.own ((lrS m ((lrW m j).take i)++(if w'.count true>w'.count false then [w'++[false]] else [])).map sbD),.val (sbD w')]
   refine B6 (cB7 PJ (H9 (y3 (g:=λi j=>decide (i>j)) (cu rfl) (cd rfl))) (λh=>?_) (λh=>G9 ?_) ?_)
   ·have h:=of_decide_eq_true h
    refine R1 rfl (ed rfl) (by rw[Aa3];unfold PySem.sizeLine;omega) ?_
    show _=_
    rw[if_pos (by omega),Ac7];rfl
   ·have h:=of_decide_eq_false h
    show _=_
    rw[if_neg (by omega),List.append_nil]
   rintro _ rfl;have hz2:(lrS m ((lrW m j).take i)++(if w'.count true>w'.count false then [w'++[false]] else [])).length<=400:=by
    rw[Ab5];split <;> simp <;> omega
   refine c0 (H9 (y3 (g:=λi j=>decide (i<j)) (cu rfl) (A1 (i:=0) rfl))) (λh=>?_) (λh=>G9 ⟨.val (sbD w'),rfl,?_⟩)
   ·have h:=of_decide_eq_true h
    refine R1 rfl (eu rfl) (by rw[Aa3];unfold PySem.sizeLine;omega) ⟨.val (sbD w'),rfl,?_⟩
    rw[et,aS3];show _=[Sl.val (.int (m:Int)),.val (.list ((lrW m j).map sbD)),.val (.int (j:Int)),.own ((lrS m ((lrW m j).take i)++((if w'.count true>w'.count false then [w'++[false]] else [])++(if w'.count true<m then [w'++[true]] else [])++[])).map sbD),.val (sbD w')];rw[if_pos (show w'.count true<m by omega),List.append_nil,<- Ad0,Ac7 (l₂:=[w'++[true]])];rfl
   ·have h:=of_decide_eq_false h
    rw[et,aS3];show _=[Sl.val (.int (m:Int)),.val (.list ((lrW m j).map sbD)),.val (.int (j:Int)),.own ((lrS m ((lrW m j).take i)++((if w'.count true>w'.count false then [w'++[false]] else [])++(if w'.count true<m then [w'++[true]] else [])++[])).map sbD),.val (sbD w')];rw[if_neg (show ¬w'.count true<m by omega),List.append_nil,List.append_nil]
  ·rintro _ ⟨x4,b4,rfl⟩;rw[Aa3,List.take_length];refine Z8 (i:=3) rfl ?_;exact u9 (d:=.list ((lrW m (j+1)).map sbD)) (A1 (i:=3) rfl) ⟨.val (.int (j:Int)),.val (.list ((lrW m (j+1)).map sbD)),x4,rfl,rfl,b4,rfl⟩
 ·rintro _ ⟨x2,x3,x4,b2,b3,b4,rfl⟩;have el:(L5 0 (((2*m:Nat):Int)).toNat).length=2*m:=by unfold L5;simp;omega
  rw[el];have es:(lrW m (2*m)).map sbD=((lrW m (2*m)).map sb).map PyData.str:=by rw[Ad3];rfl
  rw[es];exact aJ5 (bB7 (zs:=(lrW m (2*m)).map sb) (A3 (A1 (i:=1) rfl) B0) (bS0 m hm) (aZ1 _)) rfl
end
end K47
namespace L2
open PySem PySem.Spec PyProof.Rows
end L2
namespace LV
open PySem PySem.Spec PyProof.Rows L2
end LV
namespace L2
open PySem PySem.Spec PyProof.Rows
end L2
namespace LV
open PySem PySem.Spec PyProof.Rows L2
def WX (K:PySem.W.Frag)(tb:XK->TS)(ρ:List Sl)(R:AE)(XP:Addr->List (Str×PyData)->Prop):Prop:=
 ∀(S:Addr->Prop) (B:Hp) (D:v9) (σ:L2.St) (H:Hp) (o:Nat->List Addr) (EX:XK),Env K S B H σ ρ o->Sat K S B R D->(∀(C:Addr) (gs:List (Str×PyData)) (H':Hp) (dd:Option Addr) (vs:List (Str×V)),XP C gs->Same H H'->XdA H' vs dd->FdF K H' vs gs->EX (.ref C) dd H')->tb EX D σ H
section
variable {K:PySem.W.Frag}{ρ:List Sl}{m:Bool}{tA:TA}{ta:TE}{d:PyData}{ds:List PyData}{C:Addr}{mn:Str}{fs:List (Str×Int)}{pre:List PyData->PyData->Prop}{preX:List PyData->Addr->List (Str×PyData)->Prop}{R:AE}{XP:Addr->List (Str×PyData)->Prop}
theorem bR4 {tc:TT}{a b:XK->TS}{v:Bool}(h:T K tc ρ v)(h1:v=true->WX K a ρ R XP)(h2:v=false->WX K b ρ R XP):WX K (λEX=>aX1 tc (a EX) (b EX)) ρ R XP:=λS B D σ H o EX I s x=>h S B σ H o I _ λH' s'=>by
 cases v with
 | true=>exact h1 rfl S B D σ H' o EX (I.grow s') s λC gs H2 dd vs p q=>x C gs H2 dd vs p (L2.Same.tr s' q)
 | false=>exact h2 rfl S B D σ H' o EX (I.grow s') s λC gs H2 dd vs p q=>x C gs H2 dd vs p (L2.Same.tr s' q)
end
section
variable {K:PySem.W.Frag}{B:Hp}{ρ ρ':List Sl}{m:Bool}{t:TA}{d:PyData}{ds es:List PyData}{pre:List PyData->PyData->Prop}{preL:List PyData->List PyData->Prop}{preX:List PyData->Addr->List (Str×PyData)->Prop}{R:AE}{XP:Addr->List (Str×PyData)->Prop}
def bF3 (K:PySem.W.Frag)(preL:List PyData->List PyData->Prop)(preX:List PyData->Addr->List (Str×PyData)->Prop):Sp:=λvs H Q E=>
 ∃ds S,(∀b,S b->∃u:HM,H b=some u.ho)/\Reps K (hid S H) vs ds/\((∃es,preL ds es/\∀p xs H',Same H H'->H p=none->H' p=some (.lst xs)->Reps K (hid (λb=>S b\/b=p) H') xs es->Q (.ref p) H')\/∃(C:Addr) (fs:List (Str×PyData)),preX ds C fs/\∀(H':Hp) (dd:Option Addr) (vs:List (Str×V)),Same H H'->XdA H' vs dd->FdF K H' vs fs->E (.ref C) dd H')
theorem cC0 {n:Nat}(h:∀ds d,preL ds d->ds.length=n)(h':∀ds C fs,preX ds C fs->ds.length=n):∀vs H Q E,bF3 K preL preX vs H Q E->vs.length=n:=by
 rintro vs H Q E ⟨ds,S,_,r,z⟩;rw[r.length];rcases z with ⟨d,p,_⟩ | ⟨C,fs,p,_⟩
 ·exact h ds d p
 ·exact h' ds C fs p
theorem bN8 {tt:TS}{N:List Str}{vs:List V}{S:Addr->Prop}{H:Hp}{Q:VK}(hS:∀b,S b->∃u:HM,H b=some u.ho)(r:Reps K (hid S H) vs ds)(w:WB K H tt (sl0 N.length ds) {nx:=λ_=>False,rl:=λe=>e=es})
  (k:∀p xs H',Same H H'->H p=none->H' p=some (.lst xs)->Reps K (hid (λb=>S b\/b=p) H') xs es->Q (.ref p) H'):tt {nx:=λ_ H'=>Q .non H',rt:=Q} (L2.G3 N vs) H:=
 w S _ _ H _ (env0 hS r) ⟨λρ' σ' H' o' I' z=>z.elim,λv e H' s r' z=>z.elim,λp xs ds H' a b c e z=>k p xs H' a b c (by rw[<- z];exact e),λ_ _ _ _ _ z=>z.elim,λ_ _ _ _ _ z=>z.elim⟩
theorem aF3 {EX:XK}(ha:A K true t ρ ds)(hp:preL ds es):EF K (a3 (bF3 K preL preX) [] EX t) ρ es:=λS B σ H o I Q q=>ha S B σ H o I _ λvs H1 s1 r=>by
 refine⟨_,C3 ρ o S,(I.grow s1).lists,by rw[List.append_nil];exact r,.inl ⟨es,hp,λp xs H' s' hn e r'=>q p xs H' (L2.Same.tr s1 s') (Y0 s1 hn) e r'⟩⟩
theorem bE5 (ha:A K true t ρ ds)(hp:pre ds d)(hn:R.nx ρ):WX K (λEX=>Z6 (b9 (spF K pre preX) [] t EX)) ρ R XP:=λS B D σ H o EX I s x=>bG0 (m:=true) (aT9 ha hp) hn S B D σ H o I s
theorem bM0 {CE:Addr}{gs:List (Str×PyData)}(ha:A K true t ρ ds)(hp:preX ds CE gs)(hx:XP CE gs):WX K (λEX=>Z6 (b9 (spF K pre preX) [] t EX)) ρ R XP:=λS B D σ H o EX I s x=>ha S B σ H o I _ λvs H1 s1 r=>
 ⟨_,C3 ρ o S,(I.grow s1).lists,by rw[List.append_nil];exact r,.inr ⟨CE,gs,hp,λH3 dd ws s3 xa fd=>x CE gs H3 dd ws hx (L2.Same.tr s1 s3) xa fd⟩⟩
theorem bH9 (ha:A K true t ρ ds)(hp:preL ds es)(hn:R.nx ρ):WX K (λEX=>Z6 (b9 (bF3 K preL preX) [] t EX)) ρ R XP:=λS B D σ H o EX I s x=>bG0 (m:=true) (EF.e' (aF3 (EX:=EX) ha hp)) hn S B D σ H o I s
theorem bK6 {CE:Addr}{gs:List (Str×PyData)}(ha:A K true t ρ ds)(hp:preX ds CE gs)(hx:XP CE gs):WX K (λEX=>Z6 (b9 (bF3 K preL preX) [] t EX)) ρ R XP:=λS B D σ H o EX I s x=>ha S B σ H o I _ λvs H1 s1 r=>
 ⟨_,C3 ρ o S,(I.grow s1).lists,by rw[List.append_nil];exact r,.inr ⟨CE,gs,hp,λH3 dd ws s3 xa fd=>x CE gs H3 dd ws hx (L2.Same.tr s1 s3) xa fd⟩⟩
theorem bF2 {T1:Addr}{tb:XK->TS}{j:Nat}{t1:TS}(hb:WX K tb ρ R XP)
  (hx:∀C gs,XP C gs->bJ9 K C/\L2.subIn K C (.ref T1)=true/\W K t1 (ρ.set j (.val (xfD C gs))) {nx:=λρ'=>R.nx (ρ'.set j .no)}):W K (bO9 K T1 tb j t1) ρ R:=λS B D σ H o I sa=>
 hb S B D σ H o _ I sa λC gs H3 dd ws p s3 xa fd=>by
  obtain ⟨hC,a,hh⟩:=hx C gs p;refine⟨C,rfl,hC,a,λx hx=>?_⟩
  have g:=F4 (o:=excD x C dd) hx
  have I2:=(I.grow s3).grow g
  have I3:=I2.set (m:=true) j (d:=xfD C gs) (bK7 I2 C7 (aK8 g xa) (aM8 g fd))
  exact hh S B _ _ _ o I3 ⟨λρ' σ' H' o' I' w=>sa.nx _ _ H' o' (I'.unset j) w,λ_ _ _ _ _ z=>z.elim,λ_ _ _ _ _ _ _ _ z=>z.elim,λ_ _ _ _ _ z=>z.elim,λ_ _ _ _ _ z=>z.elim⟩
end
end LV
set_option maxHeartbeats 1000000
namespace K47
open PySem L2 LV PyProof.Rows
def nn (f s:List Bool):Bool:=(fOv (ahd 0 f) (ahd 0 s) 0).isNone
def prP (m:Nat):List (List Bool×List Bool):=(arW m (2*m)).flatMap λf=>((arW m (2*m)).filter (nn f)).map λs=>(f,s)
def okP (m:Nat)(f s:List Bool):Bool:=decide (((List.range m).filter λi=>decide ((ahd 0 s).getD i 0>(ahd 0 f).getD i 0)).length=0)
def lpP (m:Nat):List (List Bool×List Bool):=(lrW m (2*m)).flatMap λf=>((lrW m (2*m)).filter (okP m f)).map λs=>(f,s)
def sbP (x:List Bool×List Bool):Str×Str:=(sb x.1,sb x.2)
def qP (m:Nat):List Nat:=(lpP m).map λx=>(prP m).idxOf x
theorem bT9:∀m,m<5->Knw ((prP m).map sbP).length (oP ((prP m).map sbP)) (qP m):=λm hm=>by
 match m,hm with
 | 0,_=>exact .inl ⟨by decide +kernel,by decide +kernel⟩
 | 1,_=>exact .inl ⟨by decide +kernel,by decide +kernel⟩
 | 2,_=>exact .inr ⟨by decide +kernel,by decide +kernel,by decide +kernel,by decide +kernel,by decide +kernel⟩
 | 3,_=>exact .inr ⟨by decide +kernel,by decide +kernel,by decide +kernel,by decide +kernel,by decide +kernel⟩
 | 4,_=>exact .inr ⟨by decide +kernel,by decide +kernel,by decide +kernel,by decide +kernel,by decide +kernel⟩
theorem bW6:∀m,m<5->((qP m).map λi=>((prP m).map sbP).getD i (⟨#[]⟩,⟨#[]⟩))=(lpP m).map sbP:=by decide +kernel
theorem bJ7:∀m,m<5->(prP m).length<=100:=by decide +kernel
theorem bN6:∀m,m<5->((lpP m).length:Int)=mpn m/\0<(lpP m).length/\(lpP m).length<=100:=by decide +kernel
theorem cC8:∀m,m<5->∀w∈arW m (2*m),w.count true=m:=by decide +kernel
theorem bZ2:∀m,m<5->∀w∈lrW m (2*m),w.count true=m:=by decide +kernel
def xD (x:List Bool×List Bool):PyData:=pD (sbP x)
def bO4 (ds es:List PyData):Prop:=∃m:Nat,m<5/\ds=[.int (m:Int)]/\es=(lpP m).map xD
def fPr (f:List Bool):PyData->Option PyData
 | .str x=>if nn f (Z2 x)=true then some (xD (f,Z2 x)) else none
 | _=>none
theorem bI8 (f s:List Bool):fPr f (sbD s)=if nn f s=true then some (xD (f,s)) else none:=by
 show(if nn f (Z2 (sb s))=true then some (xD (f,Z2 (sb s))) else none)=_
 rw[aJ2]
theorem bM8 (f:List Bool)(L:List (List Bool)):(L.map sbD).filterMap (fPr f)=((L.filter (nn f)).map λs=>(f,s)).map xD:=by
 induction L with
 | nil=>rfl
 | cons w L ih=>
  rw[Ac2,List.filterMap_cons,bI8,List.filter_cons];cases h:nn f w with
  | true=>
   rw[if_pos rfl,if_pos rfl];dsimp only;rw[ih];rfl
  | false=>
   rw[if_neg (by simp),if_neg (by simp)]
   dsimp only
   exact ih
end K47
set_option maxHeartbeats 1000000
namespace K47
open PySem L2 LV PyProof.Rows
theorem sc_all_pairs:C2 ["m", "rows", "pairs", "first"] ["m"] (A9 X4):=⟨rfl,rfl,rfl,by decide +kernel,rfl,by decide +kernel,by decide +kernel⟩
theorem sc__law_pairs:C2 ["_law_m", "_law_rows", "_law_found", "_law_first", "_law_most", "_law_second", "_law_many"] ["_law_m"] (A9 V9):=⟨rfl,rfl,rfl,by decide +kernel,rfl,by decide +kernel,by decide +kernel⟩
theorem aS6 {α β:Type}(L:List α)(g:α->List β){i:Nat}{x:α}(h:L[i]? = some x):(L.take (i+1)).flatMap g=(L.take i).flatMap g++g x:=by
 rw[List.take_succ,h,List.flatMap_append];simp
theorem bI5 {α β:Type}(L:List α)(g:α->List β){n:Nat}(h:∀x∈L,(g x).length<=n)(i:Nat):((L.take i).flatMap g).length<=L.length*n:=by
 have key:∀M:List α,(∀x∈M,(g x).length<=n)->(M.flatMap g).length<=M.length*n:=λM hM=>by
  induction M with
  | nil=>exact Nat.zero_le _
  | cons x M ih=>
   rw[List.flatMap_cons,Ab5,List.length_cons,Nat.add_mul]
   have:=hM x List.mem_cons_self
   have:=ih λy hy=>hM y (Ac8 _ hy)
   omega
 have h1:=key (L.take i) λx hx=>h x (List.mem_of_mem_take hx)
 have h2:(L.take i).length<=L.length:=by rw[Ac6];omega
 exact Nat.le_trans h1 (Nat.mul_le_mul_right _ h2)
def fGt (f s:List Bool):PyData->Option PyData
 | .int i=>if(ahd 0 s).getD i.toNat 0>(ahd 0 f).getD i.toNat 0 then some (.int i) else none
 | _=>none
theorem bF8 (f s:List Bool)(i:Nat):fGt f s (.int (i:Int))=if(ahd 0 s).getD i 0>(ahd 0 f).getD i 0 then some (.int (i:Int)) else none:=by
 show(if(ahd 0 s).getD ((i:Int)).toNat 0>(ahd 0 f).getD ((i:Int)).toNat 0 then some (PyData.int (i:Int)) else none)=_
 rw[Ac3]
theorem bL8 (f s:List Bool)(m:Nat):(L5 0 m).filterMap (fGt f s)=nI ((List.range m).filter λi=>decide ((ahd 0 s).getD i 0>(ahd 0 f).getD i 0)):=by
 have e:L5 0 m=nI (List.range m):=by
  unfold L5 nI;refine List.map_congr_left λi _=>?_
  simp
 rw[e];unfold nI;rw[List.filterMap_map];induction List.range m with
 | nil=>rfl
 | cons i L ih=>
  rw[List.filterMap_cons,List.filter_cons];have e2:(fGt f s ∘ λ(x:Nat)=>PyData.int (x:Int)) i=fGt f s (.int (i:Int)):=rfl
  rw[e2,bF8];by_cases h:(ahd 0 s).getD i 0>(ahd 0 f).getD i 0
  ·rw[if_pos h,if_pos (decide_eq_true h)];dsimp only;rw[ih];rfl
  ·rw[if_neg h,if_neg (by simpa using h)]
   dsimp only
   exact ih
theorem aH6 {L:List (List Bool)}(p:List Bool->Bool)(f:List Bool)(h:L.length<=100):((L.filter p).map λs=>(f,s)).length<=100:=by rw[Aa3];exact Nat.le_trans (List.length_filter_le _ _) h
section
variable {P:Program}{w:World}{K:PySem.W.Frag}{mg:Str->Option Value}{base:Heap}{a:Ad}
theorem bO8 (T:Tx K mg a):D6 P w K mg base (CXd P w) 3 a.X6 a.X9 ["m"] (bF3 K bO4 (aF7 a.B5 4)):=by
 have G_refuse_beyond:D6 P w K mg base (CXd P w) 1 _ _ _ _:=bQ0 T
 have G_all_rows:D6 P w K mg base CX0 1 _ _ _ _:=cD7 T
 have G_first_over:D6 P w K mg base CX0 2 _ _ _ _:=cB0 T
 obtain ⟨tm,gm⟩:=T.Q2;refine T.Y2.okD sc_all_pairs (cC0 (by rintro ds d ⟨_,_,e,_⟩;rw[e];rfl) (by rintro ds C fs ⟨_,_,_,e,_⟩;rw[e];rfl)) (λcdv A outer s H vs Q E hr h=>?_)
 obtain ⟨ds,S,hS,r,z⟩:=h;refine⟨_,(A5 (N2 (B8 G_refuse_beyond (hr.mono (by decide)) rfl T.W4 T.M9.kp T.W5 .nil bO5 (A0 (pv 0) (A0 (F7 (v:=.int 4) rfl gm ⟨tm,rfl⟩) A2))))
   (A5 (D4 (i:=1) sc_all_pairs.nd rfl (Or.inl rfl) (B8 G_all_rows (hr.mono (by decide)) rfl T.aQ9 T.aB8.kp T.aR6 .nil G4 (A0 (pv 0) A2)))
   (A5 (D4 (i:=2) sc_all_pairs.nd rfl (Or.inl rfl) (M7 A2))
   (A5 (Q6 PassesOwn.leaving rfl (R6 (pv 1)) (E2 (i:=3) sc_all_pairs.nd rfl (Or.inr rfl)) (A8 (N2 (X2 Ab0 PySem.F.slot_list_extend PySem.F.type_list_extend aY1 (pv 2) (A0 (x9 (T:=["second"]) (N':=["second", "first"]) (is:=[3]) rfl (.of rfl rfl rfl (by exact⟨rfl,trivial⟩) rfl rfl rfl (by exact⟨⟨_,rfl,by first | exact .inl rfl | exact .inr rfl,by first | exact .inl rfl | exact .inr rfl⟩,trivial⟩)) (R6 (pv 1)) (T9 (by decide)) λ_ _ _ _=>⟨(E2 (i:=0) (by decide +kernel:(["second", "first"]:List Str).Nodup) rfl (Or.inl rfl)),(R4 (C9 bV4 (B8 G_first_over (hr.mono (by decide)) rfl T.aH8 T.l8.kp T.aG9 .nil G4 (A0 (pv 1) (A0 (pv 0) A2))) bH0 (D9 _))),(t6 (A0 (pv 1) (A0 (pv 0) A2)))⟩) A2)))))
   (A8 (C6 (C1 (aR1 K) (by rfl) T.p5 boot_sorted (A0 (pv 2) A2)))))))),?_⟩
 rcases z with ⟨d,⟨m,h1,rfl,rfl⟩,q⟩ | ⟨C,fs,⟨rfl,m,h1,rfl,rfl⟩,q⟩
 ·refine bN8 hS r ?_ q;refine aG7 (o7 (ds:=[.int (m:Int),.int 4]) (A3 (A1 (i:=0) rfl) (A3 B1 B0)) (.inl ⟨.none,⟨(m:Int),4,by omega,by omega,by omega,rfl,rfl⟩,W.wb ?_⟩))
  obtain ⟨l1,l2⟩:=bP4 m h1 (2*m) (by omega)
  have l3:=cC8 m h1
  have pl:=bJ7 m h1
  refine B6 (F6 (ds:=(arW m (2*m)).map sbD) (U7 (A3 (A1 (i:=0) rfl) B0) ⟨m,h1,rfl,rfl⟩) ?_ (show 1<4 by decide))
  refine Z8 (i:=1) rfl ?_;refine B6 (F6 (ds:=[]) (M6 B0) ?_ (show 2<4 by decide))
  generalize hL:arW m (2*m)=L at *;refine B6 (a4 (b8 (ds:=L.map sbD) (A1 (i:=1) rfl)) (λi ρ=>∃x3,x3.nb=true/\ρ=[.val (.int (m:Int)),.val (.list (L.map sbD)),.own (((L.take i).flatMap λf=>(L.filter (nn f)).map λs=>(f,s)).map xD),x3]) ⟨.no,rfl,rfl⟩ ?_ ?_)
  ·rintro i d _ hd ⟨x3,b3,rfl⟩;rw[Aa8]at hd;obtain ⟨f,hf,rfl⟩:=Option.map_eq_some_iff.mp hd;have hfm:=List.mem_of_getElem? hf;have hfl:=l2 f hfm;refine⟨_,E4,?_⟩;have hz:=bI5 L (λf=>(L.filter (nn f)).map λs=>(f,s)) (λx _=>aH6 (nn x) x l1) i
   have hz2:=aH6 (nn f) f l1
   refine aZ4 (es:=((L.filter (nn f)).map λs=>(f,s)).map xD) rfl (EF.to (Z0 (m:=true) (fPr f) (b8 (ds:=L.map sbD) (A1 (i:=1) rfl)) (by rw[Aa3];unfold PySem.sizeLine;omega) λd hd=>?_) (bM8 f L)) (by rw[Aa3,Aa3];unfold PySem.sizeLine;omega) ⟨.val (sbD f),rfl,?_⟩
   ·obtain ⟨g,hg,rfl⟩:=Aa7.mp hd;have hgl:=l2 g hg;refine⟨_,E4,?_⟩;have ct:LV.E K false (a3 (spV K bP7) [] E0 (G5 (K8 1) (G5 (K8 0) i5))) [.val (sbD g),cap (.val (sbD f))] (oD (fOv (ahd 0 f) (ahd 0 g) 0)):=M0 (A3 (A1 (i:=1) rfl) (A3 (A1 (i:=0) rfl) B0)) ⟨f,g,by omega,by omega,by rw[o9,o9,l3 f hfm,l3 g hg],rfl,rfl⟩
    rw[bI8];have hnn:nn f g=(fOv (ahd 0 f) (ahd 0 g) 0).isNone:=rfl;cases ho:fOv (ahd 0 f) (ahd 0 g) 0 with
    | none=>
     rw[ho]at ct hnn;rw[hnn,if_pos (show(none:Option Nat).isNone=true from rfl)]
     exact⟨E8 (bO7 ct) rfl,aW7 (A3 (A1 (i:=1) rfl) (A3 (A1 (i:=0) rfl) B0))⟩
    | some k=>
     rw[ho]at ct hnn;rw[hnn,if_neg (by simp)]
     exact E8 (bO7 ct) rfl
   ·rw[aS6 L _ hf,Ac7];rfl
  ·rintro _ ⟨x3,b3,rfl⟩;rw[Aa3,List.take_length];subst hL;have e1:(((arW m (2*m)).flatMap λf=>((arW m (2*m)).filter (nn f)).map λs=>(f,s)).map xD)=((prP m).map sbP).map pD:=by rw[Ad3];rfl
   have e2:(lpP m).map xD=((lpP m).map sbP).map pD:=by rw[Ad3];rfl
   rw[e1,e2];exact aJ5 (bG8 (zs:=(prP m).map sbP) (A3 (X8 (i:=2) rfl) B0) (bT9 m h1) (bW6 m h1)) rfl
 ·refine aI0 hS r ?_;exact aG7 (o7 (ds:=[.int m,.int 4]) (A3 (A1 (i:=0) rfl) (A3 B1 B0)) (.inr ⟨_,[],⟨rfl,m,4,h1,by omega,by omega,rfl,rfl⟩,λH' dd vs s' e1 e2=>q H' dd vs s' e1 e2⟩))
theorem cA1 (T:Tx K mg a):D6 P w K mg base CX0 2 a.S0 a.U4 ["_law_m"] (spL K bO4):=by
 have G__law_all_rows:D6 P w K mg base CX0 1 _ _ _ _:=bZ3 T
 have G__law_ahead:D6 P w K mg base CX0 1 _ _ _ _:=cD5 T
 refine T.l5.ok sc__law_pairs (bF0 λds d ⟨_,_,e,_⟩=>by rw[e];rfl) (λcdv A outer s H vs Q E hr h=>?_)
 obtain ⟨ds,S,es,hS,r,⟨m,h1,rfl,rfl⟩,q⟩:=h;refine⟨_,(A5 (D4 (i:=1) sc__law_pairs.nd rfl (Or.inl rfl) (B8 G__law_all_rows (hr.mono (by decide)) rfl T.v5 T.W6.kp T.v4 .nil G4 (A0 (pv 0) A2)))
   (A5 (D4 (i:=2) sc__law_pairs.nd rfl (Or.inl rfl) (M7 A2))
   (A5 (Q6 PassesOwn.never rfl (R6 (pv 1)) (E2 (i:=3) sc__law_pairs.nd rfl (Or.inl rfl)) (A5 (D4 (i:=4) sc__law_pairs.nd rfl (Or.inr rfl) (B8 G__law_ahead (hr.mono (by decide)) rfl T.m5 T.T5.kp T.l4 .nil G4 (A0 (pv 3) A2)))
   (A8 (Q6 PassesOwn.never rfl (R6 (pv 1)) (E2 (i:=5) sc__law_pairs.nd rfl (Or.inl rfl)) (A5 (D4 (i:=6) sc__law_pairs.nd rfl (Or.inr rfl) (B8 G__law_ahead (hr.mono (by decide)) rfl T.m5 T.T5.kp T.l4 .nil G4 (A0 (pv 5) A2)))
   (A8 (O6 (C9 aE1 (C1 (aZ5 K) (by rfl) T.Z5 PySem.boot_len (A0 (x9 (T:=["_law_i"]) (N':=["_law_i", "_law_many", "_law_most"]) (is:=[6,4]) rfl (.of rfl rfl rfl (by exact⟨rfl,rfl,trivial⟩) rfl rfl rfl (by exact⟨⟨_,rfl,by first | exact .inl rfl | exact .inr rfl,by first | exact .inl rfl | exact .inr rfl⟩,⟨_,rfl,by first | exact .inl rfl | exact .inr rfl,by first | exact .inl rfl | exact .inr rfl⟩,trivial⟩)) (K9 rfl T.N4 (A0 (pv 0) A2)) (T9 (by decide)) λ_ _ _ _=>⟨(E2 (i:=0) (by decide +kernel:(["_law_i", "_law_many", "_law_most"]:List Str).Nodup) rfl (Or.inl rfl)),(R4 (C9 aS5 (G0 (ixK K) (pv 1) (pv 0) (λ_ _=>rfl)) (G0 (ixK K) (pv 2) (pv 0) (λ_ _=>rfl)) (D9 _))),(pv 0)⟩) A2)) A7 (D9 _)) (A8 (N2 (X2 Ab0 PySem.F.slot_list_append PySem.F.type_list_append N6 (pv 2) (A0 (t6 (A0 (pv 3) (A0 (pv 5) A2))) A2)))) E7)))))))
   (A8 (C6 (pv 2)))))),aB2 hS r ?_ q⟩
 obtain ⟨l1,l2⟩:=bQ6 m h1 (2*m) (by omega)
 have l3:=bZ2 m h1
 refine B6 (F6 (ds:=(lrW m (2*m)).map sbD) (U7 (A3 (A1 (i:=0) rfl) B0) ⟨m,h1,rfl,rfl⟩) ?_ (show 1<7 by decide))
 refine Z8 (i:=1) rfl ?_;refine B6 (F6 (ds:=[]) (M6 B0) ?_ (show 2<7 by decide))
 have eL:lpP m=(lrW m (2*m)).flatMap λf=>((lrW m (2*m)).filter (okP m f)).map λs=>(f,s):=rfl
 rw[eL];generalize hL:lrW m (2*m)=L at *;refine B6 (a4 (b8 (ds:=L.map sbD) (A1 (i:=1) rfl)) (λi ρ=>∃x3 x4 x5 x6,x3.nb=true/\x4.nb=true/\x5.nb=true/\x6.nb=true/\ρ=[.val (.int (m:Int)),.val (.list (L.map sbD)),.own (((L.take i).flatMap λf=>(L.filter (okP m f)).map λs=>(f,s)).map xD),x3,x4,x5,x6]) ⟨.no,.no,.no,.no,rfl,rfl,rfl,rfl,rfl⟩ ?_ ?_)
 ·rintro i d _ hd ⟨x3,x4,x5,x6,b3,b4,b5,b6,rfl⟩;rw[Aa8]at hd;obtain ⟨f,hf,rfl⟩:=Option.map_eq_some_iff.mp hd;have hfm:=List.mem_of_getElem? hf;have hfl:=l2 f hfm;have hz:=bI5 L (λf=>(L.filter (okP m f)).map λs=>(f,s)) (λx _=>aH6 (okP m x) x l1) i
  refine⟨_,E4,?_⟩;refine B6 (F6 (ds:=nI (ahd 0 f)) (U7 (A3 (A1 (i:=3) rfl) B0) ⟨f,by omega,rfl,rfl⟩) ?_ (show 4<7 by decide))
  refine Z8 (i:=4) rfl ?_;refine a4 (b8 (ds:=L.map sbD) (A1 (i:=1) rfl)) (λk ρ=>∃x5 x6,x5.nb=true/\x6.nb=true/\ρ=[.val (.int (m:Int)),.val (.list (L.map sbD)),.own ((((L.take i).flatMap λf=>(L.filter (okP m f)).map λs=>(f,s))++((L.take k).filter (okP m f)).map λs=>(f,s)).map xD),.val (sbD f),.val (.list (nI (ahd 0 f))),x5,x6]) ⟨x5,x6,b5,b6,by rw[List.take_zero (l:=L),List.filter_nil,List.map_nil (f:=λs=>(f,s)),List.append_nil];rfl⟩ ?_ ?_
  ·rintro k d _ hd ⟨x5,x6,b5,b6,rfl⟩;rw[Aa8]at hd;obtain ⟨g,hg,rfl⟩:=Option.map_eq_some_iff.mp hd;have hgm:=List.mem_of_getElem? hg;have hgl:=l2 g hgm;have et:L.take (k+1)=L.take k++[g]:=by rw[List.take_succ,hg];rfl
   refine⟨_,E4,?_⟩;refine B6 (F6 (ds:=nI (ahd 0 g)) (U7 (A3 (A1 (i:=5) rfl) B0) ⟨g,by omega,rfl,rfl⟩) ?_ (show 6<7 by decide))
   refine Z8 (i:=6) rfl ?_;show W K _ [.val (.int (m:Int)),.val (.list (L.map sbD)),.own ((((L.take i).flatMap λf=>(L.filter (okP m f)).map λs=>(f,s))++((L.take k).filter (okP m f)).map λs=>(f,s)).map xD),.val (sbD f),.val (.list (nI (ahd 0 f))),.val (sbD g),.val (.list (nI (ahd 0 g)))] _
   have hkz:(((L.take i).flatMap λf=>(L.filter (okP m f)).map λs=>(f,s))++((L.take k).filter (okP m f)).map λs=>(f,s)).length<=10100:=by
    rw[Ab5]
    have:(((L.take k).filter (okP m f)).map λs=>(f,s)).length<=100:=aH6 (okP m f) f (by rw[Ac6];omega)
    have:L.length*100<=10000:=by omega
    omega
   refine c0 (b:=okP m f g) (E8 (aS1 (EI.to (j:=((((List.range m).filter λi=>decide ((ahd 0 g).getD i 0>(ahd 0 f).getD i 0)).length:Nat):Int)) (aU2 (d:=.list (nI ((List.range m).filter λi=>decide ((ahd 0 g).getD i 0>(ahd 0 f).getD i 0)))) (ds:=nI ((List.range m).filter λi=>decide ((ahd 0 g).getD i 0>(ahd 0 f).getD i 0))) (A3 (EF.e' (EF.to (Z0 (m:=true) (fGt f g) (ds:=L5 0 m) ?_ (by unfold L5;simp;unfold PySem.sizeLine;omega) λd hd=>?_) (bL8 f g m))) B0)) (by rw[s9])) B1) (decide_eq_decide.mpr (by omega))) (λh=>?_) (λh=>G9 ⟨.val (sbD g),.val (.list (nI (ahd 0 g))),rfl,rfl,?_⟩)
   ·have:=j6 (K:=K) (m:=true) (ρ:=[.val (.int (m:Int)),.val (.list (L.map sbD)),.own ((((L.take i).flatMap λf=>(L.filter (okP m f)).map λs=>(f,s))++((L.take k).filter (okP m f)).map λs=>(f,s)).map xD),.val (sbD f),.val (.list (nI (ahd 0 f))),.val (sbD g),.val (.list (nI (ahd 0 g)))]) (j:=(m:Int)) (A3 (A1 (i:=0) rfl) B0) (by omega) (by omega)
    rw[Ac3]at this;exact this
   ·obtain ⟨j,hj⟩:=List.mem_iff_getElem?.mp hd;obtain ⟨rfl,hj2⟩:=c8 hj;refine⟨_,E4,?_⟩;have at_:∀{w':List Bool},w'.count true=m->atI (nI (ahd 0 w')) (j:Int)=some (.int (((ahd 0 w').getD j 0:Nat):Int)):=λ{w'} hw=>W0 j rfl (by
     have hlt:j<(ahd 0 w').length:=by rw[o9,hw];exact hj2
     unfold nI;rw[Aa8,Aa2 hlt,Ab8,Aa2 hlt];rfl)
    have ct:=y3 (K:=K) (m:=false) (ρ:=[.val (.int (j:Int)),cap (.val (.list (nI (ahd 0 g)))),cap (.val (.list (nI (ahd 0 f))))]) (g:=λi j=>decide (i>j)) (h8 (ds:=nI (ahd 0 g)) (A1 (i:=1) rfl) (A1 (i:=0) rfl) rfl (at_ (l3 g hgm))) (h8 (ds:=nI (ahd 0 f)) (A1 (i:=2) rfl) (A1 (i:=0) rfl) rfl (at_ (l3 f hfm)))
    rw[bF8];by_cases h:(ahd 0 g).getD j 0>(ahd 0 f).getD j 0
    ·rw[if_pos h];exact⟨E8 ct (decide_eq_true (by omega)),A1 (i:=0) rfl⟩
    ·rw[if_neg h];exact E8 ct (decide_eq_false (by omega))
   ·refine R1 rfl (aW7 (A3 (A1 (i:=3) rfl) (A3 (A1 (i:=5) rfl) B0))) (by rw[Aa3];unfold PySem.sizeLine;omega) ⟨.val (sbD g),.val (.list (nI (ahd 0 g))),rfl,rfl,?_⟩
    have e:((((L.take i).flatMap λf=>(L.filter (okP m f)).map λs=>(f,s))++((L.take (k+1)).filter (okP m f)).map λs=>(f,s)).map xD)=((((L.take i).flatMap λf=>(L.filter (okP m f)).map λs=>(f,s))++((L.take k).filter (okP m f)).map λs=>(f,s)).map xD)++[xD (f,g)]:=by
     rw[et,List.filter_append,List.filter_cons,if_pos h,List.filter_nil];simp
    rw[e];rfl
   ·rw[et,List.filter_append,List.filter_cons,if_neg (by rw[h];simp),List.filter_nil,List.append_nil]
  ·rintro _ ⟨x5,x6,b5,b6,rfl⟩;rw[Aa3,List.take_length];refine⟨.val (sbD f),.val (.list (nI (ahd 0 f))),x5,x6,rfl,rfl,b5,b6,?_⟩;rw[aS6 L _ hf]
 ·rintro _ ⟨x3,x4,x5,x6,b3,b4,b5,b6,rfl⟩;rw[Aa3,List.take_length];exact bB1 (i:=2) rfl rfl
end
end K47
namespace LV
open PySem PyProof.Rows L2
end LV
set_option maxHeartbeats 1000000
namespace K47
open PySem L2 LV PyProof.Rows
theorem sc__law_kinds:C2 ["_law_e", "_law_one", "_law_two"] ["_law_e"] (A9 V7):=⟨rfl,rfl,rfl,by decide +kernel,rfl,by decide +kernel,by decide +kernel⟩
theorem sc__law_met:C2 ["_law_m", "_law_by_list", "_law_met_here", "_law_e"] ["_law_m", "_law_by_list"] (A9 i7):=⟨rfl,rfl,rfl,by decide +kernel,rfl,by decide +kernel,by decide +kernel⟩
theorem sc__law_told_right:C2 ["_law_m", "_law_due", "_law_found", "_law_k"] ["_law_m", "_law_due"] (A9 K2):=⟨rfl,rfl,rfl,by decide +kernel,rfl,by decide +kernel,by decide +kernel⟩
theorem sc__law_other:C2 ["_law_cell", "_law_rest"] ["_law_cell"] (A9 T2):=⟨rfl,rfl,rfl,by decide +kernel,rfl,by decide +kernel,by decide +kernel⟩
theorem i6:C2 ["_law_found", "_law_due"] ["_law_found", "_law_due"] (A9 K3):=⟨rfl,rfl,rfl,by decide +kernel,rfl,by decide +kernel,by decide +kernel⟩
theorem aC7:C2 ["_law_found"] ["_law_found"] (A9 U1):=⟨rfl,rfl,rfl,by decide +kernel,rfl,by decide +kernel,by decide +kernel⟩
def two (a b:List Bool):PyData:=.tuple [.str (sb a),.str (sb b)]
theorem aN4 (n:Nat)(a:List Bool):FitN n (.str (sb a)):=⟨cA5 a,by simp[PyData.depth]⟩
theorem aU0 (a b:List Bool):Fit (two a b):=(bF6 (n:=0) λd hd=>by
 rcases Aa1.mp hd with rfl | hd
 ·exact aN4 0 a
 ·rw[Ad1.mp hd];exact aN4 0 b).fit
theorem bM7 (a b:List Bool):PyData.eqv (two a b) (two a b)=true:=by
 unfold two
 simp[PyData.eqv,PyData.eqvAll]
def aM2 (ds:List PyData)(d:PyData):Prop:=∃a b:List Bool,ds=[two a b,two a b]/\d=.bool true
def aM7 (ds:List PyData)(d:PyData):Prop:=∃i,ds=[.int i]/\d=.bool true
theorem bS6:typeOf (.type "ValueError")=pure (.type "type"):=by unfold typeOf;rfl
theorem O2 {K:PySem.W.Frag}{C D:Addr}(q:XCl K D)(s:PySem.W.subIn K (.ref C) (.ref D)=some false)(s':PySem.W.subIn K (.ref C) (.ref C)=some true):XIs K C (.ref D) false:=⟨q,s,λe=>by rw[e,s']at s;cases s⟩
def tfD:PyData:=.list [.bool true,.bool false]
def bP2 (C:Addr)(ds:List PyData)(d:PyData):Prop:=∃fs,ds=[xfD C fs]/\d=tfD
def bnd (b:Bool):Int:=if b=true then 4 else 100
def aC9 (m:Int)(b:Bool):PyData:=if 0<=m/\m<=bnd b then .list [] else tfD
def bB9 (ds:List PyData)(d:PyData):Prop:=∃(m:Int) (b:Bool),ds=[.int m,.bool b]/\d=aC9 m b
def bG9 (ds:List PyData)(d:PyData):Prop:=∃m:Nat,m<5/\ds=[.int (m:Int),.list ((lpP m).map xD)]/\d=.bool true
def cD4 (ds:List PyData)(post:PyData->Prop):Prop:=∃c:Int,ds=[.int c]/\post=λd=>∃i:Int,d=.int i
section
variable {P:Program}{w:World}{K:PySem.W.Frag}{mg:Str->Option Value}{base:Heap}{a:Ad}
theorem bI1 (T:Tx K mg a):D6 P w K mg base CX0 1 a.K0 a.K1 ["_law_found", "_law_due"] (spV K aM2):=by
 refine T.P6.ok i6 (aA5 λds d ⟨_,_,e,_⟩=>by rw[e];rfl) (λcdv A outer s H vs Q E hr h=>?_)
 obtain ⟨ds,S,d,hS,r,⟨x,y,rfl,rfl⟩,q⟩:=h;refine⟨_,(A5 (O6 (PW.pt (aE2 (p9 (a9 (C1 (aY4 K) (by rfl) T.B9 boot_isinstance (A0 (pv 0) (A0 (aB4 rfl T.aG3 boot_tuple) A2))))) (z3 (C9 aR9 (C1 (aZ5 K) (by rfl) T.Z5 PySem.boot_len (A0 (pv 0) A2)) A7 (D9 _))))) (A8 (C6 Y3)) E7)
   (A8 (C6 (aG4 (C1 (aY4 K) (by rfl) T.B9 boot_isinstance (A0 (G0 (ixK K) (pv 0) A7 (λ_ _=>rfl)) (A0 (aB4 rfl T.aU5 boot_str) A2))) (aG4 (C1 (aY4 K) (by rfl) T.B9 boot_isinstance (A0 (G0 (ixK K) (pv 0) A7 (λ_ _=>rfl)) (A0 (aB4 rfl T.aU5 boot_str) A2))) (aJ1 (aU4 (bA4 K hr) (pv 0) (pv 1) (D9 _)))))))),Q9 hS r ?_ q⟩
 refine B6 (c0 (aP6 (aD0 (t_b (aD6 (A1 rfl)))) λh=>(H9 (aS8 (aU2 (ds:=[.str (sb x),.str (sb y)]) (A3 (A1 (d:=two x y) rfl) B0)) B1))) (λh=>absurd (show false=true from h) (by decide)) (λh=>G9 ?_))
 refine(K5 (aW0 (aD6 (h8 (d':=.str (sb x)) (A1 (d:=two x y) rfl) B1 rfl (W0 0 rfl rfl))) λh=>(aW0 (aD6 (h8 (d':=.str (sb y)) (A1 (d:=two x y) rfl) B1 rfl (W0 1 rfl rfl))) λh=>(bQ7 (A1 rfl) (A1 rfl) (aU0 x y) (aU0 x y)))) ?_)
 rw[bM7];rfl
theorem bC3 (T:Tx K mg a):D6 P w K mg base CX0 1 a.U0 a.W1 ["_law_found"] (spV K aM7):=by
 refine T.o8.ok aC7 (aA5 (by rintro ds d ⟨_,e,_⟩;rw[e];rfl)) (λcdv A outer s H vs Q E hr h=>?_)
 obtain ⟨ds,S,d,hS,r,⟨i,rfl,rfl⟩,q⟩:=h;refine⟨_,(A8 (C6 (aG4 (C1 (aY4 K) (by rfl) T.B9 boot_isinstance (A0 (pv 0) (A0 (aB4 rfl T.aK9 boot_int) A2))) (aJ1 (bT0 (C1 (aY4 K) (by rfl) T.B9 boot_isinstance (A0 (pv 0) (A0 (aB4 rfl T.aR3 boot_bool) A2)))))))),Q9 hS r ?_ q⟩
 exact K5 (aW0 (aD6 (T := "int") (d:=.int i) (A1 (i:=0) rfl)) λh=>(cB1 (aD6 (T := "bool") (d:=.int i) (A1 (i:=0) rfl)))) rfl
theorem cA2 (T:Tx K mg a):aW6 P w K mg base 1 a.T0 a.V1 ["_law_e"] (spV K (bP2 a.B5)):=by
 refine T.k9.okU sc__law_kinds (aA5 λds d ⟨_,e,_⟩=>by rw[e];rfl) (λcdv A outer s H vs Q E hr h=>?_)
 obtain ⟨ds,S,d,hS,r,⟨fs,rfl,rfl⟩,q⟩:=h;refine⟨_,(A5 (D4 (i:=1) sc__law_kinds.nd rfl (Or.inl rfl) (C1 (Y8 K) (by rfl) T.B9 boot_isinstance (A0 (pv 0) (A0 (t6 (A0 (F7 (v:=.ref a.F9) rfl T.aQ7 rfl) (A0 (F7 (v:=.ref a.E6) rfl T.aM6 rfl) (A0 (F7 (v:=.ref a.G8) rfl T.bD6 rfl) (A0 (F7 (v:=.ref a.G6) rfl T.bD2 rfl) (A0 (F7 (v:=.ref a.F5) rfl T.aW8 rfl) (A0 (F7 (v:=.ref a.G7) rfl T.bD4 rfl) A2))))))) A2))))
   (A5 (D4 (i:=2) sc__law_kinds.nd rfl (Or.inl rfl) (C1 (Y8 K) (by rfl) T.B9 boot_isinstance (A0 (pv 0) (A0 (t6 (A0 (F7 (v:=.ref a.L7) rfl T.bA2 rfl) (A0 (F7 (v:=.ref a.L6) rfl T.bA8 rfl) (A0 (F7 (v:=.ref a.C4) rfl T.aC6 rfl) (A0 (F7 (v:=.ref a.L3) rfl T.bL1 rfl) (A0 (F7 (v:=.ref a.X0) rfl T.bV1 rfl) A2)))))) A2))))
   (A8 (C6 (M7 (A0 (aG4 (C1 (Y8 K) (by rfl) T.B9 boot_isinstance (A0 (pv 0) (A0 (F7 (v:=.ref a.B5) rfl T.aE7 rfl) A2))) (aJ1 (C1 (Y8 K) (by rfl) T.B9 boot_isinstance (A0 (pv 0) (A0 (aB4 rfl T.V4 PyProof.Rows.Boot.«ValueError») A2))))) (A0 (cD2 (pv 1) (aJ1 (pv 2))) A2))))))),Q9 hS r ?_ q⟩
 have sr:=P3 T.B7 10 rfl
 refine B6 (u9 (d:=.bool false) (aT5 (fs:=fs) (bs:=[false,false,false,false,false,false]) (A1 rfl) T.N5 T.R0 (λσ H Q h=>h) ⟨O2 T.aR7 (P3 T.B7 5 rfl) sr,O2 T.aK1 (P3 T.B7 1 rfl) sr,O2 T.bE6 (P3 T.B7 6 rfl) sr,O2 T.bB0 (P3 T.B7 11 rfl) sr,O2 T.aY9 (P3 T.B7 7 rfl) sr,O2 T.bD8 (P3 T.B7 9 rfl) sr,trivial⟩ (show 6<=sizeLine by decide)) ?_)
 refine B6 (u9 (d:=.bool false) (aT5 (fs:=fs) (bs:=[false,false,false,false,false]) (A1 rfl) T.N5 T.R0 (λσ H Q h=>h) ⟨O2 T.bC6 (P3 T.B7 2 rfl) sr,O2 T.bI6 (P3 T.B7 3 rfl) sr,O2 T.aC8 (P3 T.B7 12 rfl) sr,O2 T.bO0 (P3 T.B7 8 rfl) sr,O2 T.bU5 (P3 T.B7 4 rfl) sr,trivial⟩ (show 5<=sizeLine by decide)) ?_)
 show W K _ [.val (xfD a.B5 fs),.val (.bool false),.val (.bool false)] _
 exact K5 (EF.e' (M6 (ds:=[.bool true,.bool false]) (A3 (aW0 (a:=true) (b:=true) (bA5 (b:=true) (fs:=fs) (A1 rfl) T.N5 T.R0 ⟨T.R0,sr,λ_=>rfl⟩) λ_=>bA5 (fs:=fs) (A1 rfl) T.N5 T.R0 ⟨bS6,P3 T.B7 13 rfl⟩) (A3 (cE1 (a:=false) (b:=false) (A1 rfl) λ_=>A1 rfl) B0)) (show(2:Nat)<=PySem.sizeLine by decide))) rfl
theorem bY5 (T:Tx K mg a):D6 P w K mg base CX0 4 a.h7 a.a6 ["_law_m", "_law_by_list"] (spV K bB9):=by
 have G_all_pairs:D6 P w K mg base (CXd P w) 3 _ _ _ _:=bO8 T
 have G_many_pairs:D6 P w K mg base (CXd P w) 2 _ _ _ _:=bA1 T
 have G__law_kinds:aW6 P w K mg base 1 _ _ _ _:=cA2 T
 refine T.b7.ok sc__law_met (aA5 λds d ⟨_,_,e,_⟩=>by rw[e];rfl) (λcdv A outer s H vs Q E hr h=>?_)
 obtain ⟨ds,S,d,hS,r,⟨m,b,rfl,rfl⟩,q⟩:=h;refine⟨_,(A5 (D4 (i:=2) sc__law_met.nd rfl (Or.inl rfl) (M7 A2))
   (A5 (bN5 (j:=3) (bV7 (a9 (pv 1)) (aO8 G_all_pairs (hr.mono (by decide)) rfl T.u3 T.Y2.kp T.u6 .nil (A0 (pv 0) A2)) (aO8 G_many_pairs (hr.mono (by decide)) rfl T.T7 T.N3.kp T.S6 .nil (A0 (pv 0) A2))) rfl T.aJ6 (aD3 T.S5) sc__law_met.nd rfl rfl rfl rfl λe=>(A8 (D4 (i:=2) sc__law_met.nd rfl (Or.inl rfl) (bA9 G__law_kinds (hr.u.mark.mono (by decide)) rfl T.aJ3 T.k9.kp T.aG0 .nil (A0 (pv 3) A2)))))
   (A8 (C6 (pv 2))))),Q9 hS r ?_ q⟩
 refine B6 (F6 (ds:=[]) (M6 B0) ?_ (show 2<4 by decide))
 refine Z8 (i:=2) rfl ?_;show W K _ [.val (.int m),.val (.bool b),.val (.list []),.no] _;unfold aC9;by_cases h:0<=m/\m<=bnd b
 ·rw[if_pos h];obtain ⟨n,rfl⟩:=Int.eq_ofNat_of_zero_le h.1;have h2:=h.2;refine B6 (bF2 (XP:=λ_ _=>False) (bR4 (t_b (A1 (i:=1) rfl)) (λhb=>?_) (λhb=>?_)) λC gs z=>z.elim)
  ·subst hb;exact bH9 (ds:=[.int (n:Int)]) (A3 (A1 (i:=0) rfl) B0) ⟨n,by unfold bnd at h2;simp at h2;omega,rfl,rfl⟩ (K5 (A1 (i:=2) rfl) rfl)
  ·subst hb;exact bE5 (ds:=[.int (n:Int)]) (A3 (A1 (i:=0) rfl) B0) ⟨n,by unfold bnd at h2;simp at h2;omega,rfl,rfl⟩ (K5 (A1 (i:=2) rfl) rfl)
 ·rw[if_neg h];refine B6 (bF2 (XP:=λC gs=>C=a.B5/\gs=[]) (bR4 (t_b (A1 (i:=1) rfl)) (λhb=>?_) (λhb=>?_)) ?_)
  ·subst hb;exact bK6 (ds:=[.int m]) (A3 (A1 (i:=0) rfl) B0) ⟨rfl,m,by unfold bnd at h;simp at h;omega,rfl,rfl⟩ ⟨rfl,rfl⟩
  ·subst hb;exact bM0 (ds:=[.int m]) (A3 (A1 (i:=0) rfl) B0) ⟨rfl,m,by unfold bnd at h;simp at h;omega,rfl,rfl⟩ ⟨rfl,rfl⟩
  ·rintro C gs ⟨rfl,rfl⟩;refine⟨aD3 T.Y7,bU4 (P3 T.B7 0 rfl),?_⟩;refine u9 (d:=tfD) (M0 (pre:=bP2 a.B5) (X:=E0) (A3 (A1 (i:=3) rfl) B0) ⟨_,rfl,rfl⟩) ?_;exact K5 (A1 (i:=2) rfl) rfl
theorem cC3 (T:Tx K mg a):D6 P w K mg base CX0 4 a.J9 a.K6 ["_law_m", "_law_due"] (spV K bG9):=by
 have G_all_pairs:D6 P w K mg base (CXd P w) 3 _ _ _ _:=bO8 T
 have G_many_pairs:D6 P w K mg base (CXd P w) 2 _ _ _ _:=bA1 T
 have G__law_rows_alike:D6 P w K mg base CX0 1 _ _ _ _:=bI1 T
 refine T.J8.ok sc__law_told_right (aA5 λds d ⟨_,_,e,_⟩=>by rw[e];rfl) (λcdv A outer s H vs Q E hr h=>?_)
 obtain ⟨ds,S,d,hS,r,⟨m,h1,rfl,rfl⟩,q⟩:=h;refine⟨_,(A5 (D4 (i:=2) sc__law_told_right.nd rfl (Or.inl rfl) (B8 G_all_pairs (hr.mono (by decide)) rfl T.u3 T.Y2.kp T.u6 .nil aQ6 (A0 (pv 0) A2)))
   (A5 (O6 (PW.pt (aE2 (p9 (a9 (C1 (aY4 K) (by rfl) T.B9 boot_isinstance (A0 (pv 2) (A0 (aB4 rfl T.aR2 boot_list) A2))))) (aE2 (C9 aR9 (C1 (aZ5 K) (by rfl) T.Z5 PySem.boot_len (A0 (pv 2) A2)) (C1 (aZ5 K) (by rfl) T.Z5 PySem.boot_len (A0 (pv 1) A2)) (D9 _)) (z3 (C9 aR9 (C1 (aZ5 K) (by rfl) T.Z5 PySem.boot_len (A0 (pv 2) A2)) (B8 G_many_pairs (hr.mono (by decide)) rfl T.T7 T.N3.kp T.S6 .nil aQ6 (A0 (pv 0) A2)) (D9 _)))))) (A8 (C6 Y3)) E7)
   (A5 (Q6 PassesOwn.never rfl (K9 rfl T.N4 (A0 (C1 (aZ5 K) (by rfl) T.Z5 PySem.boot_len (A0 (pv 1) A2)) A2)) (E2 (i:=3) sc__law_told_right.nd rfl (Or.inl rfl)) (A8 (O6 (p9 (a9 (B8 G__law_rows_alike (hr.mono (by decide)) rfl T.j7 T.P6.kp T.k8 .nil G4 (A0 (G0 (ixK K) (pv 2) (pv 3) (λ_ _=>rfl)) (A0 (G0 (ixK K) (pv 1) (pv 3) (λ_ _=>rfl)) A2))))) (A8 (C6 Y3)) E7)))
   (A5 (N2 (X2 Ab0 PySem.F.slot_list_append PySem.F.type_list_append N6 (pv 2) (A0 (t6 (A0 E5 (A0 E5 A2))) A2)))
   (A5 (bU1 (t6 (A0 E5 (A0 E5 A2))) (bU7 (pv 2) A7 bD1))
   (A8 (C6 Y3))))))),Q9 hS r ?_ q⟩
 obtain ⟨lm,lp,lc⟩:=bN6 m h1;refine B6 (F6 (ds:=(lpP m).map xD) (aF3 (A3 (A1 (i:=0) rfl) B0) ⟨m,h1,rfl,rfl⟩) ?_ (show 2<4 by decide))
 generalize lpP m=L at *;show W K _ [.val (.int (m:Int)),.val (.list (L.map xD)),.own (L.map xD),.no] _;have ln:∀{t:TA},LV.A K false t [.val (.int (m:Int)),.val (.list (L.map xD)),.own (L.map xD),.no] [.list (L.map xD)]->LV.E K false (tCB (λxs H Q=>∃p ys,xs=[.ref p]/\(SqL K H p ys\/SqT K H p ys)/\Q (.int ys.length) H) t) [.val (.int (m:Int)),.val (.list (L.map xD)),.own (L.map xD),.no] (.int (L.length:Int)):=λ{t} ht=>EI.to (aU2 (d:=.list (L.map xD)) (ds:=L.map xD) ht) (by rw[Aa3])
 have n1:=aS8 (K:=K) (m:=false) (ln (A3 (X8 (i:=2) rfl) B0)) (ln (A3 (A1 (i:=1) rfl) B0))
 have n2:=aS8 (K:=K) (m:=false) (ln (A3 (X8 (i:=2) rfl) B0)) (aL1 (pre:=aL4) (preX:=aF7 a.B5 100) (EX:=E0) (A3 (A1 (i:=0) rfl) B0) ⟨m,by omega,rfl,rfl⟩)
 refine B6 (c0 (b:=false) (aP6 (a:=false) (b:=false) (aD0 (a:=true) (t_b (aD6 (d:=.list (L.map xD)) (X8 (i:=2) rfl)))) λ_=>aP6 (a:=false) (b:=false) (E8 n1 (by simp)) λ_=>E8 n2 (by rw[lm];simp)) (λh=>by cases h) (λ_=>G9 ?_))
 refine B6 (a4 (j6 (j:=(L.length:Int)) (A3 (ln (A3 (A1 (i:=1) rfl) B0)) B0) (by omega) (by omega)) (λj ρ=>∃x3,x3.nb=true/\ρ=[.val (.int (m:Int)),.val (.list (L.map xD)),.own (L.map xD),x3]) ⟨.no,rfl,rfl⟩ ?_ ?_)
 ·rintro j d _ hj ⟨x3,b3,rfl⟩;obtain ⟨rfl,hj2⟩:=c8 hj;rw[Ac3]at hj2;refine⟨_,E4,?_⟩;have hat:atI (L.map xD) (j:Int)=some (xD L[j]):=W0 j rfl (by rw[Aa8,Aa2 hj2];rfl)
  exact c0 (b := !true) (aD0 (t_b (M0 (pre:=aM2) (X:=E0) (A3 (LV.E.imm (m:=false) (h8 (ds:=L.map xD) (X8 (i:=2) rfl) (A1 (i:=3) rfl) rfl hat)) (A3 (h8 (ds:=L.map xD) (A1 (i:=1) rfl) (A1 (i:=3) rfl) rfl hat) B0)) ⟨L[j].1,L[j].2,rfl,rfl⟩))) (λh=>by cases h) (λ_=>G9 ⟨_,rfl,rfl⟩)
 ·rintro _ ⟨x3,b3,rfl⟩;refine B6 (R1 (d:=.tuple [.str (Str.ofString ""),.str (Str.ofString "")]) rfl (aW7 (A3 Z7 (A3 Z7 B0))) (by rw[Aa3];unfold PySem.sizeLine;omega) ?_ (by cases x3 <;> first | rfl | cases b3))
  refine B6 (bV0 (i:=2) (k:=0) (d:=.tuple [.str (Str.ofString "u"),.str (Str.ofString "d")]) 0 (aW7 (A3 Z7 (A3 Z7 B0))) rfl B1 rfl (by simp) ?_ (by cases x3 <;> first | rfl | cases b3))
  exact K5 bE9 rfl
theorem cA7 (T:Tx K mg a):D6 P w K mg base CX0 1 a.U9 a.V8 ["_law_cell"] (spX K cD4):=by
 refine T.j8.ok sc__law_other (cD9 (by rintro ds d ⟨_,e,_⟩;rw[e];rfl)) (λcdv A outer s H vs Q E hr h=>?_)
 obtain ⟨ds,S,post,hS,r,⟨c,rfl,rfl⟩,q⟩:=h;refine⟨_,(A5 (D4 (i:=1) sc__law_other.nd rfl (Or.inl rfl) (B4 aH0 (pv 0) A7))
   (A5 (O6 (C9 aE1 (B4 M5 (pv 0) A7) A7 (D9 _)) (A8 (C6 (B4 aH2 (B4 M5 (pv 1) A7) A7))) E7)
   (A5 (O6 (C9 aE1 (B4 M5 (pv 0) A7) A7 (D9 _)) (A8 (C6 (B4 F8 A7 (B4 M5 (pv 1) A7)))) E7)
   (A5 (O6 (C9 aE1 (B4 M5 (pv 0) A7) A7 (D9 _)) (A8 (C6 (B4 M5 (pv 1) (B4 bG7 A7 A7)))) E7)
   (A8 (C6 (B4 aH2 (cA9 bW8 A7) (B4 M5 (pv 1) (B4 bG7 A7 A7))))))))),bT5 hS r ?_ q⟩
 refine B6 (u9 (d:=.int (c / 4)) (e_i (A1 (i:=0) rfl) B1 ⟨by decide,by decide⟩) ?_)
 refine B6 (c0 (H9 (aS1 (e_i (A1 (i:=0) rfl) B1 (by decide)) B1)) (λh=>K5 (Q1 (e_i (A1 (i:=1) rfl) B1 (by decide)) B1) ⟨_,rfl⟩) (λh=>G9 ?_))
 refine B6 (c0 (H9 (aS1 (e_i (A1 (i:=0) rfl) B1 (by decide)) B1)) (λh=>K5 (Q1 B1 (e_i (A1 (i:=1) rfl) B1 (by decide))) ⟨_,rfl⟩) (λh=>G9 ?_))
 refine B6 (c0 (H9 (aS1 (e_i (A1 (i:=0) rfl) B1 (by decide)) B1)) (λh=>K5 (e_i (A1 (i:=1) rfl) (e_i B1 B1 ⟨by decide,by decide,by decide⟩) (by decide)) ⟨_,rfl⟩) (λh=>G9 ?_))
 exact K5 (Q1 (cB3 B1) (e_i (A1 (i:=1) rfl) (e_i B1 B1 ⟨by decide,by decide,by decide⟩) (by decide))) ⟨_,rfl⟩
end
end K47
set_option maxHeartbeats 1000000
namespace K47
open PySem L2 LV PyProof.Rows
theorem sc_law:C2 ["_law_script", "_law_m", "_law_found", "_law_few", "_law_due", "_law_other_here", "_law_wanted"] ["_law_script"] (A9 bF7):=⟨rfl,rfl,rfl,by decide +kernel,rfl,by decide +kernel,by decide +kernel⟩
def aR8 (K:PySem.W.Frag):Sp:=λvs H Q _=>∃(a:Addr) (ns:List Int),vs=[.ref a]/\SqL K H a (ns.map V.int)/\ns.length<=63/\∀H',Q (.bl true) H'
theorem bR8:Fit tfD:=⟨rfl,by simp[tfD,PyData.depth,PyData.depthAll]⟩
theorem cD6:Fit (.list []):=⟨rfl,by simp[PyData.depth,PyData.depthAll]⟩
theorem Y6 (o:Int)(b:Bool):Fit (aC9 o b):=by
 unfold aC9;split
 ·exact cD6
 ·exact bR8
theorem aV1 (o:Int)(b:Bool):atI [tfD,.list []] (if(decide (0<=o)&&decide (o<=bnd b))=true then(1:Int) else 0)=some (aC9 o b):=by
 unfold aC9;by_cases h:0<=o/\o<=bnd b
 ·rw[if_pos h,if_pos (by simp[h.1,h.2])];exact W0 1 rfl rfl
 ·rw[if_neg h,if_neg (by simpa using h)];exact W0 0 rfl rfl
section
variable {P:Program}{w:World}{K:PySem.W.Frag}{mg:Str->Option Value}{base:Heap}{a:Ad}
theorem bX6 (T:Tx K mg a):D6 P w K mg base CX0 5 a.aM3 a.aF1 ["_law_script"] (aR8 K):=by
 have G__law_mixed:D6 P w K mg base CX0 1 _ _ _ _:=bB6 T
 have G__law_cell_at:D6 P w K mg base CX0 1 _ _ _ _:=bN7 T
 have G_many_pairs:D6 P w K mg base (CXd P w) 2 _ _ _ _:=bA1 T
 have G__law_whole:D6 P w K mg base CX0 1 _ _ _ _:=bC3 T
 have G__law_products:D6 P w K mg base CX0 1 _ _ _ _:=cD8 T
 have G__law_pairs:D6 P w K mg base CX0 2 _ _ _ _:=cA1 T
 have G__law_told_right:D6 P w K mg base CX0 4 _ _ _ _:=cC3 T
 have G__law_other:D6 P w K mg base CX0 1 _ _ _ _:=cA7 T
 have G__law_met:D6 P w K mg base CX0 4 _ _ _ _:=bY5 T
 refine T.bY8.ok sc_law (λvs H Q E ⟨_,_,e,_⟩=>by rw[e];rfl) (λcdv A outer s H vs Q E hr h=>?_)
 obtain ⟨ad,ns,rfl,hS,hl,q⟩:=h;have r:Reps K (hid (λ_=>False) H) [V.ref ad] [lI ns]:=by rw[bH4];exact .cons (.lst hS (aD4 ns)) .nil
 refine⟨_,(A5 (D4 (i:=1) sc_law.nd rfl (Or.inl rfl) (B4 M5 (B8 G__law_mixed (hr.mono (by decide)) rfl T.l7 T.T3.kp T.l9 .nil G4 (A0 (B8 G__law_cell_at (hr.mono (by decide)) rfl T.P1 T.K4.kp T.O7 .nil G4 (A0 (pv 0) (A0 A7 A2))) (A0 A7 A2))) A7))
   (A5 (D4 (i:=2) sc_law.nd rfl (Or.inl rfl) (B8 G_many_pairs (hr.mono (by decide)) rfl T.T7 T.N3.kp T.S6 .nil aQ6 (A0 (pv 1) A2)))
   (A5 (O6 (PW.pt (aE2 (p9 (a9 (B8 G__law_whole (hr.mono (by decide)) rfl T.aG1 T.o8.kp T.aH7 .nil G4 (A0 (pv 2) A2)))) (z3 (C9 aR9 (pv 2) (B8 G__law_products (hr.mono (by decide)) rfl T.v8 T.W7.kp T.v3 .nil G4 (A0 (pv 1) A2)) (D9 _))))) (A8 (C6 Y3)) E7)
   (A5 (D4 (i:=3) sc_law.nd rfl (Or.inl rfl) (B4 M5 (B8 G__law_mixed (hr.mono (by decide)) rfl T.l7 T.T3.kp T.l9 .nil G4 (A0 (B8 G__law_cell_at (hr.mono (by decide)) rfl T.P1 T.K4.kp T.O7 .nil G4 (A0 (pv 0) (A0 A7 A2))) (A0 A7 A2))) A7))
   (A5 (D4 (i:=4) sc_law.nd rfl (Or.inl rfl) (B8 G__law_pairs (hr.mono (by decide)) rfl T.aJ4 T.l5.kp T.aF9 .nil G4 (A0 (pv 3) A2)))
   (A5 (O6 (PW.pt (aE2 (p9 (a9 (B8 G__law_told_right (hr.mono (by decide)) rfl T.Q0 T.J8.kp T.P9 .nil G4 (A0 (pv 3) (A0 (pv 4) A2))))) (z3 (p9 (a9 (B8 G__law_told_right (hr.mono (by decide)) rfl T.Q0 T.J8.kp T.P9 .nil G4 (A0 (pv 3) (A0 (pv 4) A2)))))))) (A8 (C6 Y3)) E7)
   (A5 (D4 (i:=5) sc_law.nd rfl (Or.inl rfl) (B8 G__law_other (hr.mono (by decide)) rfl T.aG5 T.j8.kp T.aJ7 .nil G4 (A0 (B8 G__law_cell_at (hr.mono (by decide)) rfl T.P1 T.K4.kp T.O7 .nil G4 (A0 (pv 0) (A0 A7 A2))) A2)))
   (A5 (D4 (i:=6) sc_law.nd rfl (Or.inl rfl) (M7 (A0 (M7 (A0 Y3 (A0 Y3 A2))) (A0 (M7 A2) A2))))
   (A5 (O6 (C9 (bV5 K hr) (B8 G__law_met (hr.mono (by decide)) rfl T.aB7 T.b7.kp T.z9 .nil G4 (A0 (pv 5) (A0 Y3 A2))) (G0 (ixK K) (pv 6) (aF5 aE3 (by rfl) T.aK9 boot_int (A0 (aM0 aV8 aV8 A7 (pv 5) A7) A2)) (λ_ _=>rfl)) (D9 _)) (A8 (C6 Y3)) E7)
   (A8 (C6 (aU4 (bA4 K hr) (B8 G__law_met (hr.mono (by decide)) rfl T.aB7 T.b7.kp T.z9 .nil G4 (A0 (pv 5) (A0 Y3 A2))) (G0 (ixK K) (pv 6) (aF5 aE3 (by rfl) T.aK9 boot_int (A0 (aM0 aV8 aV8 A7 (pv 5) A7) A2)) (λ_ _=>rfl)) (D9 _))))))))))))),Q9 (d:=.bool true) (by intro b hb;exact hb.elim) r ?_ (by intro v H' _ rv;cases rv;exact q H')⟩
 have cel:∀{mm:Bool} {ρ:List Sl} (k:Nat),ρ[0]? = some (.val (lI ns))->LV.E K mm (a3 (spV K aT0) [] E0 (G5 (K8 0) (G5 (tC (.int (k:Int))) i5))) ρ (.int (cl ns (k:Int))):=λ{mm ρ} k h0=>M0 (A3 (A1 (i:=0) h0) (A3 B1 B0)) ⟨ns,(k:Int),by omega,rfl,rfl⟩
 obtain ⟨m,hm,hm1⟩:∃m:Nat,mx (cl ns 0) 1 % 101=(m:Int)/\m<=100:=⟨(mx (cl ns 0) 1 % 101).toNat,by omega,by omega⟩
 refine B6 (u9 (d:=.int (m:Int)) (EI.to (e_i (M0 (A3 (cel 0 rfl) (A3 B1 B0)) ⟨cl ns 0,1,⟨by omega,by omega⟩,rfl,rfl⟩) B1 (by decide)) hm) ?_)
 refine B6 (u9 (d:=.int (mpn m)) (aL1 (pre:=aL4) (preX:=aF7 a.B5 100) (EX:=E0) (A3 (A1 (i:=1) rfl) B0) ⟨m,hm1,rfl,rfl⟩) ?_);show W K _ [.val (lI ns),.val (.int (m:Int)),.val (.int (mpn m)),.no,.no,.no,.no] _;have n1:=aS8 (K:=K) (m:=false) (ρ:=[.val (lI ns),.val (.int (m:Int)),.val (.int (mpn m)),.no,.no,.no,.no]) (A1 (i:=2) rfl) (M0 (pre:=aL4) (X:=E0) (A3 (A1 (i:=1) rfl) B0) ⟨m,hm1,rfl,rfl⟩);refine B6 (c0 (b:=false) (aP6 (a:=false) (b:=false) (aD0 (a:=true) (t_b (M0 (pre:=aM7) (X:=E0) (A3 (A1 (i:=2) rfl) B0) ⟨mpn m,rfl,rfl⟩))) λ_=>E8 n1 (by simp)) (λh=>by cases h) (λ_=>G9 ?_))
 obtain ⟨k,hk,hk1⟩:∃k:Nat,mx (cl ns 1) 2 % 5=(k:Int)/\k<5:=⟨(mx (cl ns 1) 2 % 5).toNat,by omega,by omega⟩
 refine B6 (u9 (d:=.int (k:Int)) (EI.to (e_i (M0 (A3 (cel 1 rfl) (A3 B1 B0)) ⟨cl ns 1,2,⟨by omega,by omega⟩,rfl,rfl⟩) B1 (by decide)) hk) ?_)
 refine B6 (F6 (ds:=(lpP k).map xD) (U7 (A3 (A1 (i:=3) rfl) B0) ⟨k,hk1,rfl,rfl⟩) ?_ (show 4<7 by decide))
 refine Z8 (i:=4) rfl ?_;refine B6 (c0 (b:=false) (aP6 (a:=false) (b:=false) (aD0 (a:=true) (t_b (M0 (pre:=bG9) (X:=E0) (A3 (A1 (i:=3) rfl) (A3 (A1 (i:=4) rfl) B0)) ⟨k,hk1,rfl,rfl⟩))) λ_=>aD0 (a:=true) (t_b (M0 (pre:=bG9) (X:=E0) (A3 (A1 (i:=3) rfl) (A3 (A1 (i:=4) rfl) B0)) ⟨k,hk1,rfl,rfl⟩))) (λh=>by cases h) (λ_=>G9 ?_))
 refine B6 (bX2 (A3 (cel 2 rfl) B0) ⟨_,rfl,rfl⟩ ?_);rintro d ⟨o,rfl⟩;refine B6 (F6 (ds:=[tfD,.list []]) (M6 (A3 (EF.e' (M6 (ds:=[.bool true,.bool false]) (A3 bE9 (A3 bE9 B0)))) (A3 (EF.e' (M6 (ds:=[]) B0)) B0)) (show(2:Nat)<=PySem.sizeLine by decide)) ?_ (show 6<7 by decide))
 refine Z8 (i:=6) rfl ?_;show W K _ [.val (lI ns),.val (.int (m:Int)),.val (.int (mpn m)),.val (.int (k:Int)),.val (.list ((lpP k).map xD)),.val (.int o),.val (.list [tfD,.list []])] _;have n2:=cA8 (K:=K) (m:=false) (ρ:=[.val (lI ns),.val (.int (m:Int)),.val (.int (mpn m)),.val (.int (k:Int)),.val (.list ((lpP k).map xD)),.val (.int o),.val (.list [tfD,.list []])]) (d:=aC9 o false) (d':=aC9 o false) (M0 (pre:=bB9) (X:=E0) (A3 (A1 (i:=5) rfl) (A3 bE9 B0)) ⟨o,false,rfl,rfl⟩) (h8 (ds:=[tfD,.list []]) (A1 (i:=6) rfl) (aZ6 (A3 (aV3 (r:=rEq) (r':=rEq) (g:=λi j=>decide (i<=j)) (g':=λi j=>decide (i<=j)) (B1 (i:=0)) (A1 (i:=5) rfl) (B1 (i:=100))) B0)) rfl (aV1 o false)) (Y6 _ _) (Y6 _ _)
 have n3:=bQ7 (K:=K) (m:=true) (ρ:=[.val (lI ns),.val (.int (m:Int)),.val (.int (mpn m)),.val (.int (k:Int)),.val (.list ((lpP k).map xD)),.val (.int o),.val (.list [tfD,.list []])]) (d:=aC9 o true) (d':=aC9 o true) (M0 (pre:=bB9) (X:=E0) (A3 (A1 (i:=5) rfl) (A3 bE9 B0)) ⟨o,true,rfl,rfl⟩) (h8 (ds:=[tfD,.list []]) (A1 (i:=6) rfl) (aZ6 (A3 (aV3 (r:=rEq) (r':=rEq) (g:=λi j=>decide (i<=j)) (g':=λi j=>decide (i<=j)) (B1 (i:=0)) (A1 (i:=5) rfl) (B1 (i:=4))) B0)) rfl (aV1 o true)) (Y6 _ _) (Y6 _ _)
 rw[PySem.SeqAt.eqv_refl _ (Y6 o false).1]at n2;rw[PySem.SeqAt.eqv_refl _ (Y6 o true).1]at n3;refine B6 (c0 (b:=false) (H9 n2) (λh=>by cases h) (λ_=>G9 ?_))
 exact K5 n3 rfl
end
theorem fin_of {l:PySem.W.OpenLaw}{w:World}{fa f:Addr}{K:PySem.W.Frag}{mg:Str->Option Value}(hfa:mg "law" = some (.ref fa))(h:∃a:Ad,Tx K mg a/\a.aM3=f/\∀(s:Shared) (v:Value),BindsTo s a.aF1 ⟨[v],[]⟩ [("_law_script",v)])
  : ∃fd:FuncData,(∀(s:Shared) (v:Value),BindsTo s fd ⟨[v],[]⟩ [("_law_script",v)])/\∀base:Heap,K.In base->base.Ns mainGlobals mg->D6 l.prog w K mg base CX0 5 fa fd ["_law_script"] (aR8 K):=by
 obtain ⟨a,T,ea,hb⟩:=h;have e:=hfa.symm.trans T.cD3;cases e;exact⟨a.aF1,hb,λbase _ _=>bX6 T⟩
theorem walk {l:PySem.W.OpenLaw}{q:Program}{loose:List Str}{XP:(Str->Option Value)->Heap->Prop}{YP:World->Heap->Prop}{d:DefRec}{K:Params->PySem.W.Frag}(hn:l.most=some 63)(hdf:d.params.defaults=[])
  (hY:∀(w:World) (h:Heap),YP w h->(K w.params).In h)
  (F:∀(w:World) (mg:Str->Option Value) (fa:Addr) (h:Heap),(K w.params).In h->h.Ns mainGlobals mg->mg d.name=some (.ref fa) ->
   ∃fd:FuncData,(∀(s:Shared) (u:Value),BindsTo s fd ⟨[u],[]⟩ [("_law_script",u)])/\∀base:Heap,(K w.params).In base->base.Ns mainGlobals mg->D6 l.prog w (K w.params) mg base CX0 5 fa fd ["_law_script"] (aR8 (K w.params))) :
  PySem.W.WalkO q loose XP YP l.row.toRowW d [] (λf vs=>PySem.call f vs):=
 L2.bM5 (n:=63) (k:=5) (x := "_law_script") (CX:=λ_=>CX0) (sp:=λw=>aR8 (K w.params)) hn (by decide) hdf ⟨rfl,by decide,by decide⟩ hY F (λ_ _ a ns hl _ hS=>⟨a,ns,rfl,hS,hl,λ_=>rfl⟩) λ_ _ _ _ _ z=>z
end K47
namespace PySem.W.Fast
def tw17051077790460033865:=0
def tw10600876705202307701:=0
def tw13174948040224002401:=0
def tw11881407749101427164:=0
def tw12616462901897325469:=0
def tw3199477886171521168:=0
def tw96950145679849270:=0
def tw9793745021050946495:=0
def tw16567496113598569404:=0
def tw3939636511954613148:=0
def tw12304221325565816956:=0
def tw16062581959087434656:=0
def tw8903502311984451940:=0
def tw4555255448243584495:=0
def tw244851706876060660:=0
def tw8707420227807880034:=0
def tw10224298962934444023:=0
def tw1919075004919347886:=0
def tw1439553802721994464:=0
def tw1291442790946082174:=0
def tw1545783742217776158:=0
def tw3736109211728020194:=0
def tw8739647903511753570:=0
def tw4243481922736275375:=0
def tw4891035265219738266:=0
def tw9693265901489082771:=0
def tw12854738223332696815:=0
def tw6886853545273126494:=0
def tw7358472006100538739:=0
def tw12756253248435600552:=0
def tw17461660433875952140:=0
def tw10266961933227465184:=0
def tw15705352516332916416:=0
def tw13814299426068174374:=0
def tw10554832706052264335:=0
def tw5584631336308553889:=0
def tw14530449272377692603:=0
def tw4801809306723540624:=0
def tw9428923053684818688:=0
def tw5959696277909858782:=0
def tw11587750591917973682:=0
def tw5054564973694083828:=0
def tw4008883049942744638:=0
def tw1765508978115729818:=0
def tw13099470804166116475:=0
def tw5087400782897794733:=0
def tw14907496140063096598:=0
def tw6543530137076450921:=0
def tw16561146077729943424:=0
def tw247287223882722990:=0
def tw5945218416980103342:=0
def tw9962462526037808485:=0
def tw8204696187968653038:=0
def tw2728970984602592803:=0
def tw58506265551305408:=0
def tw16107447633220003852:=0
def tw12029315609430030084:=0
def tw8709619196909056581:=0
def tw14375135341746453513:=0
def tw9833044002139790242:=0
def tw6644718926520455001:=0
def tw2264961306153075913:=0
def tw8984391110103024622:=0
def tw15329137019414485990:=0
def tw10140377678154797977:=0
def tw17433478501916323761:=0
def tw4871762994761223505:=0
def tw6026184962754351159:=0
def tw4228634463053332869:=0
def tw4772754493550759308:=0
def tw13363981580295970149:=0
def tw11795120359633622969:=0
def tw4637850541442639605:=0
def tw15465266977169744596:=0
def tw605228120732215801:=0
def tw4386307920812657034:=0
def tw4951521242529757484:=0
def tw12326362924554340312:=0
def tw5561546678362210429:=0
def tw7161259970899221353:=0
def tw293952745221558602:=0
def tw12143841309646623988:=0
def tw5425517563533273981:=0
def tw7809870215426428112:=0
def tw7941044166937899016:=0
def tw1773319428933786165:=0
def tw5837377974676959352:=0
def tw9364525665701751842:=0
def tw12432030558756813641:=0
def tw12743718684804780600:=0
def tw17422985561718727595:=0
def tw8139923330786148060:=0
def tw6541325389246158537:=0
def tw8991274035292363953:=0
def tw12897033229741909029:=0
def tw7013001208079107016:=0
def tw2461958829651517185:=0
def tw2007992122723916873:=0
def tw17358160760407075072:=0
def tw16283192525679906153:=0
def tw980572989890575573:=0
def tw9877638523839187447:=0
def tw6755188696218155630:=0
def tw6684530744490990782:=0
def tw13740603668218812151:=0
def tw6622805112281516948:=0
def tw3619513556526094529:=0
def tw16338291522753566333:=0
def tw7550725663865038489:=0
def tw15001671825000410071:=0
def tw4805488989054674523:=0
def tw4135990402856278689:=0
def tw17286258136392932851:=0
def tw659058624960584613:=0
def tw6047173074797067809:=0
def tw16718082093273108659:=0
def tw2839117474286416663:=0
def tw6558561912610948737:=0
def tw17246116790749807828:=0
def tw4150887350477440081:=0
def tw3246040828586313679:=0
def tw3877808774143856347:=0
def tw5720026449787835827:=0
def tw4741987255029203012:=0
def tw9513703599720877575:=0
def tw5890030106536196293:=0
def tw13314056785493817298:=0
def tw12645888714661645539:=0
def tw13788370923933514369:=0
def tw7047455053154891936:=0
def tw7385901625843921624:=0
def tw9090342731661894192:=0
def tw5778261376315990238:=0
def tw11579405788692924177:=0
def tw12257335963118972691:=0
def tw16478012670962828767:=0
def tw5076603508393388224:=0
def tw2636132613245042504:=0
def tw3207568187855859230:=0
def tw9255021135836610350:=0
def tw11793387681585670367:=0
def tw13850609275019143341:=0
def tw14009556786013259698:=0
def tw6255206873273757236:=0
def tw11522540760664821446:=0
def tw2494270087111182446:=0
def tw11716986262445441918:=0
def tw12700034628163206491:=0
def tw11816264868226117541:=0
def tw5172165725434862390:=0
def tw9849401768191139075:=0
def tw5248610866914952542:=0
def tw11652993191228086223:=0
def tw11439627878559117977:=0
def tw15092413795052775701:=0
def tw5595661215595335473:=0
def tw11946051804759914868:=0
def tw13244762166462607177:=0
def tw16057501832515321204:=0
def tw8087022265196498795:=0
def tw8571393370195066194:=0
def tw15665252709071142288:=0
def tw8379001085329528942:=0
def tw6143242868121450996:=0
def tw16009194011259685578:=0
def tw11680466486862527254:=0
def tw8185042327224840560:=0
def tw5151518726416579912:=0
def tw8556231024674292575:=0
def tw9129312411259750700:=0
def tw14736100413804892498:=0
def tw14895899335756458466:=0
def tw3293544862773458866:=0
def tw5917520756662720856:=0
def tw17777309829334641917:=0
def tw17018536064907947490:=0
def tw11966566438865267799:=0
def tw7806875121516125960:=0
def tw8347094817188458900:=0
def tw8702956162071242650:=0
def tw7962130225863818658:=0
def tw1222108311740165613:=0
def tw17837510315588064066:=0
def tw9481459856944722860:=0
def tw14366391060385026167:=0
def tw416766080080480628:=0
def tw4183974891665948257:=0
def tw14618099801672434153:=0
def tw4114366874526361988:=0
def tw7878367344038010737:=0
def tw7651769954847891858:=0
def tw9158767740425586891:=0
def tw5969518367054229805:=0
def tw16096647925853911395:=0
def tw17044434008452571902:=0
def tw17036990465892081066:=0
def tw16305594700296633121:=0
def tw18043344834863129392:=0
def tw6417526686060951695:=0
def tw12872424538567913916:=0
end PySem.W.Fast
open PySem PySem.W PyProof.Rows
set_option maxRecDepth 100000 in
set_option maxHeartbeats 0 in
theorem PySem.Challenge.cw_threetrees_k47_pairs_counted_and_told_holds : PySem.Challenge.rw_threetrees_k47_pairs_counted_and_told.Holds := by
 w_on;o_law;k_head;(case hw=>w_witness2)
 k_fill
 refine K47.walk (l:=PySem.Challenge.rw_threetrees_k47_pairs_counted_and_told) rfl rfl (λw h Y=>PySem.W.kIn_of Y) ?F
 case F=>
  intro w mg fa h KX G hmg;refine' K47.fin_of hmg (K47.tx_mk KX G ⟨_,L2.F0 _ _ _⟩ ⟨_,L2.F0 _ _ _⟩ ⟨_,L2.F0 _ _ _⟩ ⟨_,L2.F0 _ _ _⟩ ⟨_,L2.F0 _ _ _⟩ ⟨_,L2.F0 _ _ _⟩ ⟨_,L2.F0 _ _ _⟩ ⟨_,L2.F0 _ _ _⟩ ⟨_,L2.F0 _ _ _⟩ ⟨_,L2.F0 _ _ _⟩ ⟨_,L2.F0 _ _ _⟩ ⟨_,L2.F0 _ _ _⟩ ⟨_,L2.F0 _ _ _⟩ ⟨_,L2.F0 _ _ _⟩ ⟨_,L2.F0 _ _ _⟩ ⟨_,L2.F0 _ _ _⟩ ⟨_,L2.F0 _ _ _⟩ ⟨_,L2.F0 _ _ _⟩ ⟨_,L2.F0 _ _ _⟩ _ _ _ _ _ _ _ _ _ _ _ _ _ _ (K47.ex_mk _ _ _) (K47.ex_mk _ _ _) (K47.ex_mk _ _ _) (K47.ex_mk _ _ _) (K47.ex_mk _ _ _) (K47.ex_mk _ _ _) (K47.ex_mk _ _ _) (K47.ex_mk _ _ _) (K47.ex_mk _ _ _) (K47.ex_mk _ _ _) (K47.ex_mk _ _ _) (K47.ex_mk _ _ _) (K47.ex_mk _ _ _) _ _ _ _ _ _ _ _ ⟨_,_,_,_,_⟩ (K47.sb_mk _))
  any_goals first | k_is | k_exc | kernel_rfl
